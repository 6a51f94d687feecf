package cluster_test

import (
	"reflect"
	"testing"

	"gusset/api"
	"gusset/cluster"
	"gusset/plate"
)

// wreck writes over all lists of what it is handed, their spare room too.
func wreck(v reflect.Value) {
	switch v.Kind() {
	case reflect.Struct:
		for i := range v.NumField() {
			wreck(v.Field(i))
		}
	case reflect.Slice:
		list := v.Slice(0, v.Cap())
		for i := range list.Len() {
			wreck(list.Index(i))
			list.Index(i).SetZero()
		}
	}
}

// wreckEach writes over the things of a list that was answered, one behind the other: if one shared anything with those
// that come behind it, or with an answer given before, that would show in what they tell then.
func wreckEach[T any](w *world, list []T) {
	w.Helper()
	for i := range list {
		should := make([]string, len(list))
		for k := i + 1; k < len(list); k++ {
			should[k] = told(list[k])
		}
		wreck(reflect.ValueOf(list[i]))
		for k := i + 1; k < len(list); k++ {
			if told(list[k]) != should[k] {
				w.wrong("one answer's lists share memory:", list[k], "was", should[k])
			}
		}
	}
	wreck(reflect.ValueOf(list))
}

// wreckAll writes over all that the cluster answers.
func (w *world) wreckAll() {
	w.Helper()
	commits, replies := w.Commits(), w.Replies()
	early := told(commits) + told(replies)
	wreckEach(w, w.Commits())
	wreckEach(w, w.Replies())
	wreckEach(w, w.Served())
	for n := range w.nodes {
		wreckEach(w, w.Verts(n))
		wreckEach(w, w.Ghosts(n))
		wreckEach(w, w.Dirs(n))
	}
	if told(commits)+told(replies) != early {
		w.wrong("an earlier answer has changed:", commits, replies)
	}
}

// The rule of memory: a cluster that is handed lists that are written over behind each step, and whose answers are, tells
// the same as one for which nobody does that.
func TestMemory(t *testing.T) {
	inParallel(t, 64, func(t *testing.T, seed int64) {
		w := newWorld(t, 1+int(seed)%4, 1+int(seed/4)%4, seed)
		twin := newWorld(t, w.nodes, w.clients, seed)
		for range 150 {
			s := w.wild()
			should := twin.try(s)
			ops, keep := make([]api.Op, 9), make([]byte, 20)
			copy(ops[1:8], s.Req.Ops)
			copy(keep[1:19], s.Fate.Keep)
			ops[len(s.Req.Ops)+1], keep[len(s.Fate.Keep)+1] = api.Op{Kind: api.OpAdd, A: 7}, 1
			was := told(ops) + told(keep)
			lent := s
			lent.Req.Ops, lent.Fate = ops[1:len(s.Req.Ops)+1], plate.Fate{Keep: keep[1 : len(s.Fate.Keep)+1]}
			e := w.Do(lent)
			w.steps = append(w.steps, s)
			if e != should {
				w.wrong("it answers", e, "not", should)
			}
			if told(ops)+told(keep) != was {
				w.wrong("what was handed in has changed:", ops, keep)
			}
			clear(ops)
			clear(keep)
			w.wreckAll()
			if all(w) != all(twin) {
				w.wrong("it tells", all(w), "not", all(twin))
			}
		}
	})
}

// The rule of memory: a request that is refused isn't kept either, and what was called before stays.
func TestRefusedMemory(t *testing.T) {
	w := newWorld(t, 1, 1, 1)
	ops := []api.Op{add(1), set(1, text("abc"))}
	w.call(0, tx(ops...))
	w.steps = nil
	if e := w.Do(cluster.Step{Kind: cluster.Call, Req: tx(ops[:1]...)}); e != api.ErrState {
		t.Fatal("a second call answers", e)
	}
	clear(ops)
	w.do(cluster.Drop)
	w.do(cluster.Again, 0)
	w.drain()
	w.is("reply", w.Replies(), []cluster.Reply{{Seq: 1, Req: tx(add(1), set(1, text("abc"))), To: 1}})
	w.is("commit", w.Commits()[0].Req, tx(add(1), set(1, text("abc"))))
}
