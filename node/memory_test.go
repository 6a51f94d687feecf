package node_test

import (
	"reflect"
	"slices"
	"testing"

	"gusset/api"
	"gusset/node"
)

// full is v with copies of all its lists, and behind each what stands in its spare room.
func full(v reflect.Value) reflect.Value {
	to := reflect.New(v.Type()).Elem()
	switch v.Kind() {
	case reflect.Struct:
		for i := range v.NumField() {
			to.Field(i).Set(full(v.Field(i)))
		}
	case reflect.Slice:
		to.Set(reflect.MakeSlice(v.Type(), v.Cap(), v.Cap()))
		for i := range v.Cap() {
			to.Index(i).Set(full(v.Slice(0, v.Cap()).Index(i)))
		}
	default:
		to.Set(v)
	}
	return to
}

// roomy is v with copies of all its lists, that have spare room in which something stands.
func roomy(v reflect.Value) reflect.Value {
	to := reflect.New(v.Type()).Elem()
	switch v.Kind() {
	case reflect.Struct:
		for i := range v.NumField() {
			to.Field(i).Set(roomy(v.Field(i)))
		}
	case reflect.Slice:
		if v.Len() == 0 {
			break
		}
		list := reflect.MakeSlice(v.Type(), v.Len()+2, v.Len()+2)
		for i := range v.Len() + 2 {
			list.Index(i).Set(roomy(v.Index(i % v.Len())))
		}
		to.Set(list.Slice(0, v.Len()))
	default:
		to.Set(v)
	}
	return to
}

// wreck writes over all lists of v, their spare room too.
func wreck(v reflect.Value) {
	switch v.Kind() {
	case reflect.Struct:
		for i := range v.NumField() {
			wreck(v.Field(i))
		}
	case reflect.Slice:
		all := v.Slice(0, v.Cap())
		for i := range all.Len() {
			wreck(all.Index(i))
			all.Index(i).SetZero()
		}
	}
}

// handle hands a node a message; if the world is careful, one that is written over behind that.
func (w *world) handle(n *node.Node, m api.Msg) []api.Msg {
	if !w.careful {
		return n.Handle(m)
	}
	m = roomy(reflect.ValueOf(m)).Interface().(api.Msg)
	before := full(reflect.ValueOf(m)).Interface()
	sent := n.Handle(m)
	if after := full(reflect.ValueOf(m)).Interface(); !reflect.DeepEqual(before, after) {
		w.fatal("it has changed", before, "to", after)
	}
	wreck(reflect.ValueOf(m))
	return sent
}

// taken is a list that was answered, each of its things written over ahead of the next one's copy if the world is
// careful: if they shared anything, it would show.
func taken[T any](w *world, list []T) []T {
	if !w.careful {
		return list
	}
	var copies []T
	for i := range list {
		copies = append(copies, plain(reflect.ValueOf(list[i])).Interface().(T))
		wreck(reflect.ValueOf(list[i]))
	}
	wreck(reflect.ValueOf(list))
	return copies
}

// The rule of memory: scripts in which all that is handed in and answered is written over.
func TestMemory(t *testing.T) {
	inParallel(t, 320, func(t *testing.T, seed int64) {
		w := newWorld(t, 1+int(seed)%4, 1+int(seed/4)%4, seed)
		w.careful = true
		w.fill(5)
		for range 2 {
			for range 100 {
				w.step(5, int(seed/16)%harms)
				w.checkHalves()
			}
			w.settle()
		}
	})
}

// P2: what a node answers hangs on nothing but what it was told: nodes that are told the same answer the same.
func TestSameAgain(t *testing.T) {
	inParallel(t, 64, func(t *testing.T, seed int64) {
		var past [2][]string
		var bags [2][][]byte
		for i := range past {
			w := newWorld(t, 1+int(seed)%4, 1+int(seed/4)%4, seed)
			w.careful = i == 1
			w.fill(5)
			for range 200 {
				w.step(5, int(seed/16)%harms)
				bags[i] = append(bags[i], slices.Concat(w.bag...))
			}
			past[i] = w.past
		}
		if !reflect.DeepEqual(past[0], past[1]) || !reflect.DeepEqual(bags[0], bags[1]) {
			t.Fatal("seed", seed, "differs")
		}
	})
}

// The rule of memory: what was decided stays as it is told, though the request is written over.
func TestDecidedStays(t *testing.T) {
	n := opened(t, 0, 1, plateOf(t, api.MaxPages))
	r := tx(add(1), set(1, 0, text("abc")), get(1, 0))
	sent := n.Handle(asked(0, 1, r))
	wreck(reflect.ValueOf(sent))
	clear(r.Ops)
	again := n.Handle(asked(0, 1, r))
	if len(again) != 1 || !same(again[0].Ans.Vals, []api.Value{text("abc")}) {
		t.Fatal("it sends", again)
	}
	wreck(reflect.ValueOf(again))
	want := node.Decision{
		Tx: api.TxID{Inc: 1, Seq: 1}, Seq: 1, Req: tx(add(1), set(1, 0, text("abc")), get(1, 0)),
		Ans: api.Answer{Vals: []api.Value{text("abc")}},
	}
	if list := n.Decided(); len(list) != 1 || !same(list[0], want) {
		t.Fatal("decided", list)
	}
}

// What goes between nodes, and what is laid down, can be told as bytes, however many vertices it has, here or there.
func TestGreatMessages(t *testing.T) {
	for apart := range uint32(2) {
		w := newWorld(t, 2, 1, 1)
		for v := uint32(1); v <= api.MaxVertex; v++ {
			r := tx(add(v))
			for key := range byte(api.MaxKey + 1) {
				r.Ops = append(r.Ops, set(v, key, text("abcdefgh")))
			}
			w.did(0, r)
		}
		for a := uint32(1); a <= api.MaxVertex; a++ {
			for k := uint32(1); k <= api.MaxHalves/2; k++ {
				w.did(0, tx(join(a, (a+2*k-1-apart)%api.MaxVertex+1, text("abcdefgh"))))
			}
		}
		var cuts, joins []api.Op
		for k := uint32(1); k <= api.MaxOps; k++ {
			a, b := 4*k-3, 4*k-1-apart
			cuts = append(cuts, api.Op{Kind: api.OpCut, A: a, B: b})
			joins = append(joins, join(a, b, text("12345678")))
		}
		w.did(0, tx(cuts...))
		w.did(0, tx(joins...))
		w.did(0, hops(1, api.MaxHops))
		w.did(0, move(1, 0))
		w.checkHalves()
		for i := range w.nodes {
			w.reopen(i)
			if e := w.nodes[i].Checkpoint(); e != api.OK {
				t.Fatal("checkpoint", e)
			}
			w.reopen(i)
		}
		w.checkPlain()
	}
}
