package graph_test

import (
	"math"
	"math/rand"
	"reflect"
	"slices"
	"testing"
	"unsafe"

	"gusset/api"
	"gusset/graph"
)

func number(n int64) api.Value { return api.Value{Kind: api.Int, N: n} }

func text(s string) api.Value { return api.Value{Kind: api.Text, S: s} }

func add(a uint32) api.Op { return api.Op{Kind: api.OpAdd, A: a} }

func del(a uint32) api.Op { return api.Op{Kind: api.OpDel, A: a} }

func set(a uint32, key byte, v api.Value) api.Op {
	return api.Op{Kind: api.OpSet, A: a, Key: key, Val: v}
}

func get(a uint32, key byte) api.Op { return api.Op{Kind: api.OpGet, A: a, Key: key} }

func join(a, b uint32, v api.Value) api.Op { return api.Op{Kind: api.OpJoin, A: a, B: b, Val: v} }

func cut(a, b uint32) api.Op { return api.Op{Kind: api.OpCut, A: a, B: b} }

func edge(a, b uint32) api.Op { return api.Op{Kind: api.OpEdge, A: a, B: b} }

func degree(a uint32) api.Op { return api.Op{Kind: api.OpDegree, A: a} }

func need(a uint32, key byte, v api.Value) api.Op {
	return api.Op{Kind: api.OpNeed, A: a, Key: key, Val: v}
}

func tx(ops ...api.Op) api.Request { return api.Request{Kind: api.ReqTx, Ops: ops} }

func hops(v uint32, k int) api.Request { return api.Request{Kind: api.ReqHops, V: v, K: k} }

func move(v uint32, to int) api.Request { return api.Request{Kind: api.ReqMove, V: v, To: to} }

// same holds two things against each other; nil and empty lists are the same.
func same[T any](a, b T) bool {
	return reflect.DeepEqual(plain(reflect.ValueOf(a)).Interface(), plain(reflect.ValueOf(b)).Interface())
}

// plain is v with nil for each empty list.
func plain(v reflect.Value) reflect.Value {
	to := reflect.New(v.Type()).Elem()
	switch {
	case v.Kind() == reflect.Struct:
		for i := range v.NumField() {
			to.Field(i).Set(plain(v.Field(i)))
		}
	case v.Kind() != reflect.Slice:
		to.Set(v)
	case v.Len() > 0:
		to.Set(reflect.MakeSlice(v.Type(), v.Len(), v.Len()))
		for i := range v.Len() {
			to.Index(i).Set(plain(v.Index(i)))
		}
	}
	return to
}

// made is a graph to which requests were done, each of them OK.
func made(t *testing.T, list ...api.Request) *graph.Graph {
	t.Helper()
	g := graph.New()
	for _, r := range list {
		if a := g.Do(r); a.E != api.OK {
			t.Fatalf("Do(%v) = %v", r, a)
		}
	}
	return g
}

// state is all that g tells.
func state(g *graph.Graph) []api.Vertex {
	var list []api.Vertex
	for v := range uint32(api.MaxVertex + 2) {
		list = append(list, g.Vertex(v))
	}
	for _, v := range g.List() {
		list = append(list, api.Vertex{ID: v})
	}
	return list
}

// P3.1: requests in form.
func TestCheckOK(t *testing.T) {
	six := []api.Op{add(1), add(2), join(1, 2, text("x")), need(1, 3, api.Value{}), edge(40, 1), degree(40)}
	list := []api.Request{
		tx(six...), tx(add(40)), tx(del(1)), tx(set(1, 0, api.Value{})), tx(set(40, 3, number(math.MinInt64))), tx(get(1, 3)),
		tx(join(40, 1, api.Value{})), tx(cut(1, 40)), tx(need(1, 0, text(""))), tx(need(1, 0, text("abcdefgh"))),
		hops(1, 0), hops(40, 8), move(1, 0), move(40, 3),
		{Kind: api.ReqHops, Ops: []api.Op{}, V: 1}, {Kind: api.ReqMove, Ops: []api.Op{}, V: 1},
	}
	for _, r := range list {
		if e := graph.Check(r); e != api.OK {
			t.Errorf("Check(%v) = %v", r, e)
		}
	}
}

// wrong is requests that aren't in form, by their errors.
var wrong = map[api.Errno][]api.Request{
	api.ErrArg: {
		{}, {Kind: 4}, {Kind: 255}, {Kind: 0, Ops: []api.Op{add(1)}}, {Kind: 4, V: 1}, {Kind: 9, V: 99, K: 99, To: 99},
		hops(1, -1), hops(1, 9), hops(1, math.MaxInt), hops(1, math.MinInt), hops(0, 9), hops(41, -1),
		{Kind: api.ReqHops, V: 1, K: 9, To: 1}, {Kind: api.ReqHops, V: 1, K: 9, Ops: []api.Op{add(1)}},
		move(1, -1), move(1, 4), move(1, math.MaxInt), move(1, math.MinInt), move(0, 4),
		{Kind: api.ReqMove, V: 1, To: 4, K: 1}, {Kind: api.ReqMove, V: 1, To: -1, Ops: []api.Op{add(1)}},
	},
	api.ErrLong: {
		tx(), {Kind: api.ReqTx, V: 1}, {Kind: api.ReqTx, K: -1, To: 9}, {Kind: api.ReqTx, Ops: []api.Op{}},
		tx(make([]api.Op, 7)...), tx(add(1), add(2), add(3), add(4), add(5), add(6), add(7)), tx(make([]api.Op, 100000)...),
		{Kind: api.ReqTx, Ops: make([]api.Op, 7), V: 1},
	},
	api.ErrForm: {
		tx(api.Op{}), tx(add(1), api.Op{Kind: 10, A: 1}), tx(api.Op{Kind: 255, A: 1}), tx(add(0)), tx(add(41)), tx(add(math.MaxUint32)), tx(add(1), add(2), add(3), add(4), add(5), add(0)),
		tx(join(1, 1, api.Value{})), tx(join(1, 0, api.Value{})), tx(join(1, 41, api.Value{})), tx(cut(1, 0)), tx(cut(2, 2)), tx(edge(1, 0)), tx(edge(3, 3)), tx(edge(1, 41)), tx(edge(0, 1)),
		tx(set(1, 4, number(1))), tx(set(1, 255, number(1))), tx(get(1, 4)), tx(need(1, 4, number(1))),
		tx(set(1, 0, text("A"))), tx(set(1, 0, text("abcdefghi"))), tx(set(1, 0, api.Value{N: 1})), tx(set(1, 0, api.Value{Kind: 3})), tx(set(1, 0, api.Value{Kind: api.Int, S: "a"})),
		tx(join(1, 2, text("'"))), tx(join(1, 2, api.Value{Kind: 3})), tx(need(1, 0, api.Value{Kind: api.Text, N: 1})),
		{Kind: api.ReqTx, Ops: []api.Op{add(1)}, V: 1}, {Kind: api.ReqTx, Ops: []api.Op{add(1)}, K: 1}, {Kind: api.ReqTx, Ops: []api.Op{add(1)}, K: -1}, {Kind: api.ReqTx, Ops: []api.Op{add(1)}, To: 1}, {Kind: api.ReqTx, Ops: []api.Op{add(1)}, To: -1}, {Kind: api.ReqTx, Ops: []api.Op{add(1)}, K: 99},
		hops(0, 0), hops(41, 8), hops(math.MaxUint32, 1), {Kind: api.ReqHops, V: 1, To: 1}, {Kind: api.ReqHops, V: 1, To: -1}, {Kind: api.ReqHops, V: 1, Ops: []api.Op{add(1)}}, {Kind: api.ReqHops, V: 1, Ops: []api.Op{{}}}, {Kind: api.ReqHops, V: 1, To: 99},
		move(0, 0), move(41, 3), {Kind: api.ReqMove, V: 1, K: 1}, {Kind: api.ReqMove, V: 1, K: 99}, {Kind: api.ReqMove, V: 1, Ops: []api.Op{add(1)}},
	},
}

// P3.1: requests that aren't in form, of several errors the one with the least number. P3.2: Do answers it, and nothing happens.
func TestCheckWrong(t *testing.T) {
	g := made(t, tx(add(1), add(2), join(1, 2, text("x")), set(1, 0, number(5))))
	before := state(g)
	for want, list := range wrong {
		for _, r := range list {
			if e := graph.Check(r); e != want {
				t.Errorf("Check(%.200v) = %v, want %v", r, e, want)
			}
			if a := g.Do(r); !same(a, api.Answer{E: want}) {
				t.Errorf("Do(%.200v) = %v, want %v", r, a, want)
			}
			if a := (*graph.Graph)(nil).Do(r); !same(a, api.Answer{E: want}) {
				t.Errorf("Do(%.200v) of nil = %v, want %v", r, a, want)
			}
		}
	}
	if !same(state(g), before) {
		t.Fatal(state(g))
	}
}

// P3.1: which of B, Key and Val a kind may have, field by field.
func TestCheckFields(t *testing.T) {
	// Of each kind from 0 on: what it uses.
	uses := []string{"no kind", "", "", "kv", "k", "bv", "b", "b", "", "kv", "no kind", "no kind"}
	good := []api.Value{number(0), number(-7), text(""), text("a.b")}
	bad := []api.Value{{Kind: 3}, {Kind: api.None, N: 1}, {Kind: api.None, S: "a"}, text("A"), {Kind: api.Int, S: "a"}}
	for kind, use := range uses {
		for _, a := range []uint32{0, 1, 2, 40, 41, 1 << 31} {
			for _, b := range []uint32{0, 1, 2, 40, 41, 1 << 31} {
				for _, key := range []byte{0, 1, 3, 4, 255} {
					for i, v := range slices.Concat([]api.Value{{}}, good, bad) {
						isB, isKey, isVal := b == 0, key == 0, i == 0
						if slices.Contains([]byte(use), 'b') {
							isB = 1 <= b && b <= 40 && b != a
						}
						if slices.Contains([]byte(use), 'k') {
							isKey = key <= 3
						}
						if slices.Contains([]byte(use), 'v') {
							isVal = i <= len(good)
						}
						want := api.ErrForm
						if use != "no kind" && 1 <= a && a <= 40 && isB && isKey && isVal {
							want = api.OK
						}
						r := tx(api.Op{Kind: byte(kind), A: a, B: b, Key: key, Val: v})
						if e := graph.Check(r); e != want {
							t.Fatalf("Check(%v) = %v, want %v", r, e, want)
						}
					}
				}
			}
		}
	}
}

// star is requests that give the vertex v edges to n others, from first on; all of them are added.
func star(v, first uint32, n int) []api.Request {
	list := []api.Request{tx(add(v))}
	for i := range uint32(n) {
		list = append(list, tx(add(first+i), join(v, first+i, number(int64(i)))))
	}
	return list
}

// P3.2: each line of the operations' table, what is refused by the first that applies.
func TestOperations(t *testing.T) {
	base := []api.Request{tx(add(1), add(2), add(3), join(1, 2, text("x")), set(1, 0, number(5)))}
	full := slices.Concat(star(1, 3, api.MaxHalves), []api.Request{tx(add(2))})
	none := api.Value{}
	for _, c := range []struct {
		name string
		told []api.Request
		op   api.Op
		want api.Answer
	}{
		{"add", base, add(4), api.Answer{}},
		{"add what is there", base, add(1), api.Answer{E: api.ErrExists}},
		{"del", base, del(3), api.Answer{}},
		{"del what isn't there", base, del(4), api.Answer{E: api.ErrNone}},
		{"del with an edge", base, del(1), api.Answer{E: api.ErrEdges}},
		{"del of the edge's other end", base, del(2), api.Answer{E: api.ErrEdges}},
		{"set", base, set(1, 3, text("")), api.Answer{}},
		{"set to None", base, set(1, 0, none), api.Answer{}},
		{"set to None what it hasn't", base, set(1, 1, none), api.Answer{}},
		{"set of none", base, set(4, 0, number(1)), api.Answer{E: api.ErrNone}},
		{"set to None of none", base, set(4, 0, none), api.Answer{E: api.ErrNone}},
		{"get", base, get(1, 0), api.Answer{Vals: []api.Value{number(5)}}},
		{"get what it hasn't", base, get(1, 1), api.Answer{Vals: []api.Value{{}}}},
		{"get of none", base, get(4, 0), api.Answer{E: api.ErrNone}},
		{"join", base, join(3, 1, none), api.Answer{}},
		{"join A not there", base, join(4, 1, none), api.Answer{E: api.ErrNone}},
		{"join B not there", base, join(1, 4, none), api.Answer{E: api.ErrNone}},
		{"join neither there", base, join(4, 5, none), api.Answer{E: api.ErrNone}},
		{"join again", base, join(1, 2, text("y")), api.Answer{E: api.ErrExists}},
		{"join again, turned about", base, join(2, 1, text("x")), api.Answer{E: api.ErrExists}},
		{"join A full", full, join(1, 2, none), api.Answer{E: api.ErrFull}},
		{"join B full", full, join(2, 1, none), api.Answer{E: api.ErrFull}},
		{"join full, and B not there", full, join(1, 40, none), api.Answer{E: api.ErrNone}},
		{"join full, and A not there", full, join(40, 1, none), api.Answer{E: api.ErrNone}},
		{"join full, and there is the edge", full, join(1, 3, none), api.Answer{E: api.ErrExists}},
		{"join with the last edge", star(1, 3, api.MaxHalves-1), add(40), api.Answer{}},
		{"join beside a full one", full, join(2, 3, none), api.Answer{}},
		{"cut", base, cut(1, 2), api.Answer{}},
		{"cut, turned about", base, cut(2, 1), api.Answer{}},
		{"cut no edge", base, cut(1, 3), api.Answer{E: api.ErrNone}},
		{"cut A not there", base, cut(4, 1), api.Answer{E: api.ErrNone}},
		{"cut B not there", base, cut(1, 4), api.Answer{E: api.ErrNone}},
		{"edge", base, edge(1, 2), api.Answer{Vals: []api.Value{text("x")}}},
		{"edge, turned about", base, edge(2, 1), api.Answer{Vals: []api.Value{text("x")}}},
		{"edge with None", []api.Request{tx(add(1), add(2), join(1, 2, none))}, edge(2, 1), api.Answer{Vals: []api.Value{{}}}},
		{"edge that isn't", base, edge(1, 3), api.Answer{E: api.ErrNone}},
		{"edge A not there", base, edge(4, 1), api.Answer{E: api.ErrNone}},
		{"edge B not there", base, edge(1, 4), api.Answer{E: api.ErrNone}},
		{"degree", base, degree(2), api.Answer{Vals: []api.Value{number(1)}}},
		{"degree without edges", base, degree(3), api.Answer{Vals: []api.Value{number(0)}}},
		{"degree of a full one", full, degree(1), api.Answer{Vals: []api.Value{number(api.MaxHalves)}}},
		{"degree of none", base, degree(4), api.Answer{E: api.ErrNone}},
		{"need", base, need(1, 0, number(5)), api.Answer{}},
		{"need None", base, need(1, 1, none), api.Answer{}},
		{"need another number", base, need(1, 0, number(6)), api.Answer{E: api.ErrState}},
		{"need another kind", base, need(1, 0, text("5")), api.Answer{E: api.ErrState}},
		{"need None of what it has", base, need(1, 0, none), api.Answer{E: api.ErrState}},
		{"need what it hasn't", base, need(1, 1, number(0)), api.Answer{E: api.ErrState}},
		{"need of none", base, need(4, 0, none), api.Answer{E: api.ErrNone}},
	} {
		g := made(t, c.told...)
		before := state(g)
		got := g.Do(tx(c.op))
		if !same(got, c.want) {
			t.Errorf("%s: %v, want %v", c.name, got, c.want)
		}
		changes := c.want.E == api.OK && !slices.Contains([]byte{api.OpGet, api.OpEdge, api.OpDegree, api.OpNeed}, c.op.Kind) && c.name != "set to None what it hasn't"
		if same(state(g), before) == changes {
			t.Errorf("%s: changes %v: %v", c.name, !changes, state(g))
		}
	}
}

// P3.2: what operations leave behind.
func TestEffects(t *testing.T) {
	g := made(t, tx(add(2), add(1), join(2, 1, text("x")), set(1, 3, number(5)), set(1, 0, text("a")), set(1, 1, number(-1))))
	want := api.Vertex{ID: 1, There: true, Props: []api.Prop{{Key: 0, Val: text("a")}, {Key: 1, Val: number(-1)}, {Key: 3, Val: number(5)}}, Halves: []api.Half{{Far: 2, Val: text("x")}}}
	if v := g.Vertex(1); !same(v, want) {
		t.Fatal(v)
	}
	if v := g.Vertex(2); !same(v, api.Vertex{ID: 2, There: true, Halves: []api.Half{{Far: 1, Val: text("x")}}}) {
		t.Fatal(v)
	}
	// A transaction sees what it has done itself.
	a := g.Do(tx(set(1, 0, number(9)), get(1, 0), cut(1, 2), degree(1), set(1, 1, api.Value{}), get(1, 1)))
	if !same(a, api.Answer{Vals: []api.Value{number(9), number(0), {}}}) {
		t.Fatal(a)
	}
	if v := g.Vertex(1); !same(v, api.Vertex{ID: 1, There: true, Props: []api.Prop{{Key: 0, Val: number(9)}, {Key: 3, Val: number(5)}}}) {
		t.Fatal(v)
	}
	// What is added again has nothing of what it had.
	a = g.Do(tx(del(1), add(1), get(1, 0), degree(1)))
	if !same(a, api.Answer{Vals: []api.Value{{}, number(0)}}) || !same(g.Vertex(1), api.Vertex{ID: 1, There: true}) {
		t.Fatal(a, g.Vertex(1))
	}
	if a = g.Do(tx(del(1), del(2))); !same(a, api.Answer{}) || len(g.List()) != 0 {
		t.Fatal(a, g.List())
	}
}

// P3.2: the examples of the chapter.
func TestExamples(t *testing.T) {
	g := graph.New()
	if a := g.Do(tx(add(1), add(2), join(1, 2, text("x")), set(1, 0, number(5)))); !same(a, api.Answer{}) {
		t.Fatal(a)
	}
	if a := g.Do(tx(get(1, 0), edge(2, 1), degree(1))); !same(a, api.Answer{Vals: []api.Value{number(5), text("x"), number(1)}}) {
		t.Fatal(a)
	}
	if a := g.Do(tx(set(1, 0, number(6)), del(1))); !same(a, api.Answer{E: api.ErrEdges, At: 1}) {
		t.Fatal(a)
	}
	if a := g.Do(tx(get(1, 0))); !same(a, api.Answer{Vals: []api.Value{number(5)}}) {
		t.Fatal(a)
	}
	if a := g.Do(hops(1, 1)); !same(a, api.Answer{List: []uint32{1, 2}}) {
		t.Fatal(a)
	}
	if a := g.Do(hops(1, 0)); !same(a, api.Answer{List: []uint32{1}}) {
		t.Fatal(a)
	}
	if a := g.Do(hops(3, 1)); !same(a, api.Answer{E: api.ErrNone}) {
		t.Fatal(a)
	}
	if a := g.Do(tx()); !same(a, api.Answer{E: api.ErrLong}) {
		t.Fatal(a)
	}
}

// P3.2: of a transaction that is refused nothing has happened, whatever was done ahead of it, and nothing read is answered.
func TestNothingHappened(t *testing.T) {
	g := made(t, tx(add(1), add(2), add(3), join(1, 2, text("x")), join(2, 3, number(7)), set(1, 0, number(5))), tx(set(2, 1, text("p")), set(2, 2, text("q"))))
	before := state(g)
	did := [][]api.Op{
		{add(9), add(8), join(8, 9, number(1)), set(9, 0, text("n")), join(9, 1, number(2))},
		{cut(1, 2), del(1)},
		{cut(1, 2), cut(2, 3), del(2), del(1), del(3)},
		{cut(2, 1), cut(3, 2), del(2), add(2), join(2, 1, text("y"))},
		{set(1, 0, api.Value{}), set(1, 0, number(6)), set(2, 1, api.Value{}), get(1, 0), edge(1, 2)},
		{join(1, 3, number(3)), cut(1, 2), degree(1), join(1, 2, number(4)), set(3, 3, number(0))},
	}
	for _, ops := range did {
		for at := range len(ops) + 1 {
			list := append(slices.Clone(ops[:at]), del(39))
			if a := g.Do(tx(list...)); !same(a, api.Answer{E: api.ErrNone, At: at}) || !same(state(g), before) {
				t.Fatalf("Do(%v) = %v; %v", list, a, state(g))
			}
		}
	}
}

// P3.2: ReqHops on a row, a ring and two graphs apart; ReqMove does nothing.
func TestHopsAndMove(t *testing.T) {
	g := graph.New()
	for v := uint32(10); v <= 21; v++ {
		g.Do(tx(add(v)))
		g.Do(tx(join(v, v-1, api.Value{})))
	}
	g.Do(tx(add(40), add(1), join(40, 1, api.Value{})))
	for k := range api.MaxHops + 1 {
		var row, mid []uint32
		for v := uint32(10); v <= 21; v++ {
			if v <= 10+uint32(k) {
				row = append(row, v)
			}
			if v+uint32(k) >= 15 && v <= 15+uint32(k) {
				mid = append(mid, v)
			}
		}
		if a := g.Do(hops(10, k)); !same(a, api.Answer{List: row}) {
			t.Fatal(k, a)
		}
		if a := g.Do(hops(15, k)); !same(a, api.Answer{List: mid}) {
			t.Fatal(k, a)
		}
	}
	g.Do(tx(join(10, 21, api.Value{})))
	if a := g.Do(hops(10, 2)); !same(a, api.Answer{List: []uint32{10, 11, 12, 20, 21}}) {
		t.Fatal(a)
	}
	if a := g.Do(hops(40, 8)); !same(a, api.Answer{List: []uint32{1, 40}}) {
		t.Fatal(a)
	}
	before := state(g)
	if a := g.Do(move(10, 3)); !same(a, api.Answer{}) {
		t.Fatal(a)
	}
	if a := g.Do(move(9, 0)); !same(a, api.Answer{E: api.ErrNone}) {
		t.Fatal(a)
	}
	if a := g.Do(hops(9, 0)); !same(a, api.Answer{E: api.ErrNone}) {
		t.Fatal(a)
	}
	if !same(state(g), before) {
		t.Fatal(state(g))
	}
}

// P3.3: List and Vertex, also of numbers that no vertex has.
func TestVertexList(t *testing.T) {
	g := made(t, tx(add(40), add(7), add(1), add(20)), tx(join(7, 40, number(1)), join(7, 1, number(2)), join(20, 7, number(3))))
	if l := g.List(); !same(l, []uint32{1, 7, 20, 40}) {
		t.Fatal(l)
	}
	if v := g.Vertex(7); !same(v, api.Vertex{ID: 7, There: true, Halves: []api.Half{{Far: 1, Val: number(2)}, {Far: 20, Val: number(3)}, {Far: 40, Val: number(1)}}}) {
		t.Fatal(v)
	}
	for _, v := range []uint32{0, 2, 39, 41, math.MaxUint32} {
		if got := g.Vertex(v); !same(got, api.Vertex{ID: v}) {
			t.Fatal(got)
		}
	}
	if l := graph.New().List(); len(l) != 0 {
		t.Fatal(l)
	}
}

// P3.3: Put: a vertex is as it is said, in the place of what it was; the other ends of its edges stay as they are.
func TestPut(t *testing.T) {
	g := made(t, tx(add(1), add(2), add(3), join(1, 2, text("x")), set(1, 0, number(5))))
	two, three := g.Vertex(2), g.Vertex(3)
	var halves []api.Half
	for far := uint32(2); len(halves) < api.MaxHalves; far++ {
		halves = append(halves, api.Half{Far: far + 23, Val: number(int64(far))})
	}
	for _, v := range []api.Vertex{
		{ID: 1, There: true},
		{ID: 1, There: true, Props: []api.Prop{{Key: 0, Val: number(1)}, {Key: 3, Val: text("")}}, Halves: []api.Half{{Far: 3, Val: api.Value{}}, {Far: 40, Val: text("abcdefgh")}}},
		{ID: 1, There: true, Props: []api.Prop{{Key: 0, Val: number(1)}, {Key: 1, Val: number(1)}, {Key: 2, Val: number(1)}, {Key: 3, Val: number(1)}}, Halves: halves},
		{ID: 40, There: true, Halves: []api.Half{{Far: 1, Val: api.Value{}}, {Far: 39, Val: api.Value{}}}},
		{ID: 40}, {ID: 39, Props: []api.Prop{}, Halves: []api.Half{}}, {ID: 1},
	} {
		if e := g.Put(v); e != api.OK {
			t.Fatalf("Put(%v) = %v", v, e)
		}
		if got := g.Vertex(v.ID); !same(got, v) {
			t.Fatalf("Put(%v): %v", v, got)
		}
		if !same(g.Vertex(2), two) || !same(g.Vertex(3), three) {
			t.Fatalf("Put(%v): %v, %v", v, g.Vertex(2), g.Vertex(3))
		}
		if slices.Contains(g.List(), v.ID) != v.There {
			t.Fatalf("Put(%v): %v", v, g.List())
		}
	}
}

// P3.3: vertices that are not in form are not put.
func TestPutWrong(t *testing.T) {
	five := number(5)
	props := func(id uint32, list ...api.Prop) api.Vertex {
		return api.Vertex{ID: id, There: true, Props: list}
	}
	halves := func(id uint32, list ...api.Half) api.Vertex {
		return api.Vertex{ID: id, There: true, Halves: list}
	}
	var many []api.Half
	for far := uint32(2); len(many) <= api.MaxHalves; far++ {
		many = append(many, api.Half{Far: far, Val: five})
	}
	g := made(t, tx(add(1), add(2), join(1, 2, text("x")), set(1, 0, number(7))))
	before := state(g)
	for _, v := range []api.Vertex{
		{}, {ID: 0, There: true}, {ID: 41}, {ID: 41, There: true}, {ID: math.MaxUint32, There: true},
		{ID: 1, Props: []api.Prop{{Key: 0, Val: five}}}, {ID: 1, Halves: []api.Half{{Far: 2, Val: five}}}, {ID: 1, Props: []api.Prop{{}}},
		props(1, api.Prop{Key: 4, Val: five}), props(1, api.Prop{Key: 255, Val: five}), props(1, api.Prop{Key: 0}), props(1, api.Prop{Key: 0, Val: text("A")}), props(1, api.Prop{Key: 0, Val: api.Value{Kind: 3}}),
		props(1, api.Prop{Key: 0, Val: api.Value{N: 1}}),
		props(1, api.Prop{Key: 1, Val: five}, api.Prop{Key: 0, Val: five}), props(1, api.Prop{Key: 1, Val: five}, api.Prop{Key: 1, Val: five}), props(1, api.Prop{Key: 0, Val: five}, api.Prop{Key: 1}),
		props(1, api.Prop{Key: 0, Val: five}, api.Prop{Key: 2, Val: five}, api.Prop{Key: 1, Val: five}), props(1, api.Prop{Key: 3, Val: five}, api.Prop{Key: 4, Val: five}),
		halves(1, api.Half{Far: 0}), halves(1, api.Half{Far: 1}), halves(1, api.Half{Far: 41}), halves(1, api.Half{Far: math.MaxUint32}), halves(1, api.Half{Far: 2, Val: text("'")}), halves(1, api.Half{Far: 2, Val: api.Value{Kind: api.Int, S: "1"}}),
		halves(2, api.Half{Far: 1}, api.Half{Far: 2}), halves(2, api.Half{Far: 1}, api.Half{Far: 1}), halves(2, api.Half{Far: 4}, api.Half{Far: 3}), halves(2, api.Half{Far: 1}, api.Half{Far: 4}, api.Half{Far: 3}), halves(1, api.Half{Far: 2}, api.Half{Far: 41}),
		halves(1, many...),
	} {
		if e := g.Put(v); e != api.ErrForm {
			t.Errorf("Put(%v) = %v", v, e)
		}
		if e := (*graph.Graph)(nil).Put(v); e != api.ErrForm {
			t.Errorf("Put(%v) of nil = %v", v, e)
		}
		if !same(state(g), before) {
			t.Fatalf("Put(%v): %v", v, state(g))
		}
	}
}

// P3.3: a graph that was put together answers as one that was told so; in a part of one a vertex' own edges are asked.
func TestPutTogether(t *testing.T) {
	r := rand.New(rand.NewSource(3))
	g, m := graph.New(), &model{}
	for range 2000 {
		req := randomRequest(r, 8)
		g.Do(req)
		m.do(req)
	}
	again := graph.New()
	for v := uint32(api.MaxVertex); v > 0; v-- {
		if e := again.Put(g.Vertex(v)); e != api.OK {
			t.Fatal(v, e)
		}
	}
	holdModel(t, again, m)
	for range 2000 {
		req := randomRequest(r, 8)
		if got, want := again.Do(req), m.do(req); !same(got, want) {
			t.Fatal(req, got, want)
		}
	}
	part := graph.New()
	part.Put(api.Vertex{ID: 1, There: true, Halves: []api.Half{{Far: 2, Val: text("x")}, {Far: 3, Val: text("y")}}})
	if a := part.Do(tx(edge(1, 2), degree(1), cut(1, 3), degree(1))); !same(a, api.Answer{Vals: []api.Value{text("x"), number(2), number(1)}}) {
		t.Fatal(a)
	}
	if a := part.Do(tx(add(3), cut(1, 2), del(1), add(1), del(2))); !same(a, api.Answer{E: api.ErrNone, At: 4}) || len(part.Vertex(1).Halves) != 1 {
		t.Fatal(a, part.Vertex(1))
	}
	if l := part.List(); !same(l, []uint32{1}) {
		t.Fatal(l)
	}
}

// P3.3 and the rule of nil objects: a nil *Graph.
func TestNil(t *testing.T) {
	var g *graph.Graph
	for _, r := range []api.Request{tx(add(1)), hops(1, 1), move(1, 0)} {
		if a := g.Do(r); !same(a, api.Answer{E: api.ErrNone}) {
			t.Fatal(a)
		}
	}
	if e := g.Put(api.Vertex{ID: 1, There: true}); e != api.ErrNone {
		t.Fatal(e)
	}
	if e := g.Put(api.Vertex{ID: 41}); e != api.ErrForm {
		t.Fatal(e)
	}
	for _, v := range []uint32{0, 1, 41} {
		if got := g.Vertex(v); !same(got, api.Vertex{ID: v}) {
			t.Fatal(got)
		}
	}
	if l := g.List(); len(l) != 0 {
		t.Fatal(l)
	}
}

// What is handed in is neither changed nor kept, and answers are new memory.
func TestMemory(t *testing.T) {
	g := graph.New()
	room := []api.Op{add(1), add(2), join(1, 2, text("x")), set(1, 0, text("p")), set(1, 1, text("q")), add(9)}
	was := slices.Clone(room)
	g.Do(tx(room[:5]...))
	if !slices.Equal(room, was) {
		t.Fatal(room)
	}
	clear(room)
	props := []api.Prop{{Key: 0, Val: text("r")}, {Key: 1, Val: text("s")}, {Key: 9}}
	halves := []api.Half{{Far: 1, Val: text("u")}, {Far: 2, Val: text("v")}, {Far: 9}}
	v := api.Vertex{ID: 3, There: true, Props: props[:2], Halves: halves[:2]}
	g.Put(v)
	if props[2].Key != 9 || halves[2].Far != 9 {
		t.Fatal(props, halves)
	}
	clear(props)
	clear(halves)
	want := state(g)
	first, second := g.Vertex(3), g.Vertex(3)
	clear(first.Props)
	clear(first.Halves)
	_ = append(first.Props, api.Prop{Key: 7})
	if second.Props[0].Val != text("r") || second.Halves[1].Val != text("v") {
		t.Fatal(second)
	}
	for _, r := range []api.Request{tx(get(1, 0), edge(1, 2)), hops(1, 1)} {
		a, b := g.Do(r), g.Do(r)
		c := api.Answer{Vals: slices.Clone(b.Vals), List: slices.Clone(b.List)}
		clear(a.Vals)
		clear(a.List)
		if !same(b, c) {
			t.Fatal(b, c)
		}
	}
	clear(g.List())
	if !same(state(g), want) {
		t.Fatal(state(g))
	}
}

// What is kept of a text is not the memory that was handed in, nor what is handed out.
func TestTextMemory(t *testing.T) {
	long := []byte("abcdefgh")
	loan := unsafe.String(&long[0], len(long))
	g := made(t, tx(add(1), add(2), set(1, 0, text(loan)), join(1, 2, text(loan))))
	g.Put(api.Vertex{ID: 3, There: true, Props: []api.Prop{{Key: 0, Val: text(loan)}}, Halves: []api.Half{{Far: 1, Val: text(loan)}}})
	copy(long, "zzzzzzzz")
	for _, op := range []api.Op{get(1, 0), edge(1, 2), edge(2, 1), get(3, 0), edge(3, 1)} {
		a, b := g.Do(tx(op)).Vals[0], g.Do(tx(op)).Vals[0]
		if a != text("abcdefgh") || unsafe.StringData(a.S) == unsafe.StringData(b.S) {
			t.Errorf("Do(%v) = %v", op, a)
		}
	}
}

// P1: every call ends and none panics, at arbitrary arguments; what is refused has changed nothing.
func TestArbitrary(t *testing.T) {
	r := rand.New(rand.NewSource(7))
	g := made(t, tx(add(1), add(2), join(1, 2, text("x"))))
	small := func() int { return []int{0, 1, 2, 3, 4, 8, 9, 40, 41, -1, math.MaxInt, math.MinInt}[r.Intn(12)] }
	val := func() api.Value {
		return api.Value{Kind: byte(r.Intn(4)), N: int64(small() % 3), S: []string{"", "", "", "a", "A"}[r.Intn(5)]}
	}
	for range 100000 {
		var ops []api.Op
		for range r.Intn(8) {
			ops = append(ops, api.Op{Kind: byte(r.Intn(11)), A: uint32(small()), B: uint32(small()), Key: byte(small()), Val: val()})
		}
		req := api.Request{Kind: byte(r.Intn(5)), Ops: ops, V: uint32(small()), K: small(), To: small()}
		if r.Intn(2) == 0 {
			req = api.Request{Kind: req.Kind, Ops: ops}
		}
		e := graph.Check(req)
		a := g.Do(req)
		if e != api.OK && !same(a, api.Answer{E: e}) {
			t.Fatal(req, e, a)
		}
		v := api.Vertex{ID: uint32(small()), There: r.Intn(3) > 0}
		for range r.Intn(3) {
			v.Props = append(v.Props, api.Prop{Key: byte(small()), Val: val()})
			v.Halves = append(v.Halves, api.Half{Far: uint32(small()), Val: val()})
		}
		was := g.Vertex(v.ID)
		if e := g.Put(v); e == api.OK && !same(g.Vertex(v.ID), v) || e != api.OK && !same(g.Vertex(v.ID), was) {
			t.Fatal(v, e, g.Vertex(v.ID))
		}
	}
}
