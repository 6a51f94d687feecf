package plan_test

import (
	"math"
	"reflect"
	"slices"
	"testing"

	"gusset/api"
	"gusset/plan"
)

func number(n int64) api.Value { return api.Value{Kind: api.Int, N: n} }

func text(s string) api.Value { return api.Value{Kind: api.Text, S: s} }

func add(a uint32) api.Op { return api.Op{Kind: api.OpAdd, A: a} }

func del(a uint32) api.Op { return api.Op{Kind: api.OpDel, A: a} }

func set(a uint32, key byte, v api.Value) api.Op {
	return api.Op{Kind: api.OpSet, A: a, Key: key, Val: v}
}

func get(a uint32, key byte) api.Op { return api.Op{Kind: api.OpGet, A: a, Key: key} }

func join(a, b uint32, v api.Value) api.Op { return api.Op{Kind: api.OpJoin, A: a, B: b, Val: v} }

func cut(a, b uint32) api.Op { return api.Op{Kind: api.OpCut, A: a, B: b} }

func edge(a, b uint32) api.Op { return api.Op{Kind: api.OpEdge, A: a, B: b} }

func degree(a uint32) api.Op { return api.Op{Kind: api.OpDegree, A: a} }

func need(a uint32, key byte, v api.Value) api.Op {
	return api.Op{Kind: api.OpNeed, A: a, Key: key, Val: v}
}

// ops is operations as a list.
func ops(list ...api.Op) []api.Op { return list }

// to is a vertex with halves to others, which have None.
func to(id uint32, fars ...uint32) api.Vertex {
	v := api.Vertex{ID: id, There: true}
	for _, far := range fars {
		v.Halves = append(v.Halves, api.Half{Far: far})
	}
	return v
}

// having is v with the property.
func having(v api.Vertex, key byte, val api.Value) api.Vertex {
	v.Props = append(slices.Clone(v.Props), api.Prop{Key: key, Val: val})
	return v
}

// gone is a vertex that isn't there.
func gone(id uint32) api.Vertex { return api.Vertex{ID: id} }

// locks is wants, by pairs of a vertex and a mode.
func locks(pairs ...int) []api.Want {
	var list []api.Want
	for i := 0; i < len(pairs); i += 2 {
		list = append(list, api.Want{V: uint32(pairs[i]), Mode: byte(pairs[i+1])})
	}
	return list
}

// same holds two lists of vertices against each other; nil and empty lists are the same.
func same(a, b []api.Vertex) bool {
	return slices.EqualFunc(a, b, func(a, b api.Vertex) bool {
		return a.ID == b.ID && a.There == b.There && slices.Equal(a.Props, b.Props) && slices.Equal(a.Halves, b.Halves)
	})
}

// wants holds a Wants against what it should answer.
func wants(t *testing.T, list []api.Op, should []api.Want) {
	t.Helper()
	if got, e := plan.Wants(list); !slices.Equal(got, should) || e != api.OK {
		t.Fatalf("Wants(%v) = %v, %v, not %v", list, got, e, should)
	}
}

// answers holds a Run against its answer, whose operations are all done, and the vertices that it should have changed.
func answers(t *testing.T, verts []api.Vertex, list []api.Op, vals []api.Value, should ...api.Vertex) {
	t.Helper()
	a, got, e := plan.Run(verts, list)
	if a.E != api.OK || a.At != 0 || !slices.Equal(a.Vals, vals) || len(a.List) > 0 || e != api.OK {
		t.Fatalf("Run(%v, %v) answers %v, %v, not %v", verts, list, a, e, vals)
	}
	if !same(got, should) {
		t.Fatalf("Run(%v, %v) changes %v, not %v", verts, list, got, should)
	}
}

// refuses holds a Run against the error and the place of the operation that it should refuse.
func refuses(t *testing.T, verts []api.Vertex, list []api.Op, should api.Errno, at int) {
	t.Helper()
	a, got, e := plan.Run(verts, list)
	if !reflect.DeepEqual(plainAnswer(a), api.Answer{E: should, At: at}) || len(got) > 0 || e != api.OK {
		t.Fatalf("Run(%v, %v) = %v, %v, %v, not %v at %d", verts, list, a, got, e, should, at)
	}
}

// fails holds a Run against the error that it should answer, beside which there is nothing.
func fails(t *testing.T, verts []api.Vertex, list []api.Op, should api.Errno) {
	t.Helper()
	a, got, e := plan.Run(verts, list)
	if !reflect.DeepEqual(plainAnswer(a), api.Answer{}) || len(got) > 0 || e != should {
		t.Fatalf("Run(%v, %v) = %v, %v, %v, not %v", verts, list, a, got, e, should)
	}
}

// plainAnswer is a with nil for each empty list.
func plainAnswer(a api.Answer) api.Answer {
	if len(a.Vals) == 0 {
		a.Vals = nil
	}
	if len(a.List) == 0 {
		a.List = nil
	}
	return a
}

// leads holds a Frontier against what it should answer.
func leads(t *testing.T, verts []api.Vertex, should ...uint32) {
	t.Helper()
	if got, e := plan.Frontier(verts); !slices.Equal(got, should) || e != api.OK {
		t.Fatalf("Frontier(%v) = %v, %v, not %v", verts, got, e, should)
	}
}

// P18.1, P18.3, P18.4: the document's examples.
func TestExample(t *testing.T) {
	wants(t, ops(get(3, 0), join(5, 2, api.Value{}), set(3, 0, number(1))), locks(2, 2, 3, 2, 5, 2))
	answers(t, []api.Vertex{to(1)}, ops(add(2), join(1, 2, api.Value{})), nil, to(1, 2), to(2, 1))
	refuses(t, nil, ops(get(1, 0)), api.ErrNone, 0)
	leads(t, []api.Vertex{to(1, 2, 3), to(2, 1)}, 1, 2, 3)
}

// P18.1: what each kind of operation wants.
func TestWants(t *testing.T) {
	none := api.Value{}
	wants(t, ops(add(7)), locks(7, 2))
	wants(t, ops(del(7)), locks(7, 2))
	wants(t, ops(set(7, 3, text("x"))), locks(7, 2))
	wants(t, ops(set(7, 0, none)), locks(7, 2))
	wants(t, ops(get(7, 1)), locks(7, 1))
	wants(t, ops(join(7, 9, none)), locks(7, 2, 9, 2))
	wants(t, ops(join(9, 7, number(1))), locks(7, 2, 9, 2))
	wants(t, ops(cut(7, 9)), locks(7, 2, 9, 2))
	wants(t, ops(cut(9, 7)), locks(7, 2, 9, 2))
	wants(t, ops(edge(7, 9)), locks(7, 1))
	wants(t, ops(edge(9, 7)), locks(9, 1))
	wants(t, ops(degree(7)), locks(7, 1))
	wants(t, ops(need(7, 0, none)), locks(7, 1))
	wants(t, ops(add(1)), locks(1, 2))
	wants(t, ops(get(40, 0)), locks(40, 1))
	wants(t, ops(cut(40, 1)), locks(1, 2, 40, 2))
}

// P18.1: of several operations on one vertex the strictest tells, in whatever order they stand; each vertex stands once.
func TestWantsTwice(t *testing.T) {
	none := api.Value{}
	strict := ops(add(5), del(5), set(5, 0, none), join(5, 8, none), join(8, 5, none), cut(5, 8), cut(8, 5))
	mild := ops(get(5, 0), edge(5, 8), edge(5, 9), degree(5), need(5, 1, none))
	for _, a := range strict {
		for _, b := range mild {
			should := locks(5, 2)
			if a.B != 0 {
				should = locks(5, 2, 8, 2)
			}
			wants(t, ops(a, b), should)
			wants(t, ops(b, a), should)
			wants(t, ops(b, a, b), should)
		}
	}
	for _, a := range mild {
		for _, b := range mild {
			wants(t, ops(a, b), locks(5, 1))
		}
	}
	wants(t, ops(edge(5, 8), get(8, 0)), locks(5, 1, 8, 1))
	wants(t, ops(edge(5, 8), set(8, 0, none)), locks(5, 1, 8, 2))
	wants(t, ops(join(40, 1, none), join(39, 2, none), cut(20, 21), cut(1, 20), join(22, 39, none), join(3, 4, none)),
		locks(1, 2, 2, 2, 3, 2, 4, 2, 20, 2, 21, 2, 22, 2, 39, 2, 40, 2))
	wants(t, ops(join(12, 11, none), join(10, 9, none), join(8, 7, none), join(6, 5, none), join(4, 3, none), join(2, 1, none)),
		locks(1, 2, 2, 2, 3, 2, 4, 2, 5, 2, 6, 2, 7, 2, 8, 2, 9, 2, 10, 2, 11, 2, 12, 2))
}

// wrong is operations that are no transaction's, by their errors.
var wrong = map[api.Errno][][]api.Op{
	api.ErrLong: {nil, {}, make([]api.Op, 7), {add(1), add(2), add(3), add(4), add(5), add(6), add(7)}, make([]api.Op, 10000)},
	api.ErrForm: {
		{{}}, {{Kind: 10, A: 1}}, {{Kind: 255, A: 1}}, {add(0)}, {add(41)}, {add(math.MaxUint32)}, {add(1), get(41, 0)}, {add(1), add(2), add(3), add(4), add(5), add(0)},
		{join(1, 1, api.Value{})}, {join(1, 0, api.Value{})}, {join(1, 41, api.Value{})}, {cut(0, 1)}, {cut(1, math.MaxUint32)}, {edge(1, 0)}, {edge(3, 3)}, {edge(1, 41)},
		{set(1, 4, number(1))}, {get(1, 255)}, {need(1, 4, api.Value{})}, {set(1, 0, text("A"))}, {set(1, 0, text("abcdefghi"))}, {join(1, 2, api.Value{Kind: 3})}, {need(1, 0, api.Value{N: 1})},
		{{Kind: api.OpAdd, A: 1, B: 2}}, {{Kind: api.OpGet, A: 1, Val: number(1)}}, {{Kind: api.OpCut, A: 1, B: 2, Key: 1}},
	},
}

// P18.1, P18.3: operations that are no transaction's.
func TestWrongOps(t *testing.T) {
	for should, lists := range wrong {
		for _, list := range lists {
			if got, e := plan.Wants(list); len(got) > 0 || e != should {
				t.Errorf("Wants(%v) = %v, %v, not %v", list, got, e, should)
			}
			fails(t, nil, list, should)
			fails(t, []api.Vertex{to(1), to(2, 1)}, list, should)
		}
	}
}

// groups holds a Groups against the lists of each node.
func groups(t *testing.T, list []api.Want, owners []byte, should ...[]api.Want) {
	t.Helper()
	got, e := plan.Groups(list, owners)
	if e != api.OK || len(got) != api.MaxNodes {
		t.Fatalf("Groups(%v, %v) = %v, %v", list, owners, got, e)
	}
	if !slices.EqualFunc(got, should, slices.Equal[[]api.Want]) {
		t.Fatalf("Groups(%v, %v) = %v, not %v", list, owners, got, should)
	}
}

// P18.2: each want to its owner, in their order, be that what it may.
func TestGroups(t *testing.T) {
	groups(t, nil, nil, nil, nil, nil, nil)
	groups(t, []api.Want{}, []byte{}, nil, nil, nil, nil)
	groups(t, locks(7, 1), []byte{0}, locks(7, 1), nil, nil, nil)
	groups(t, locks(7, 2), []byte{3}, nil, nil, nil, locks(7, 2))
	list := locks(2, 2, 3, 1, 5, 2, 8, 1, 9, 1)
	groups(t, list, []byte{2, 0, 2, 3, 0}, locks(3, 1, 9, 1), nil, locks(2, 2, 5, 2), locks(8, 1))
	groups(t, list, []byte{1, 1, 1, 1, 1}, nil, list, nil, nil)
	groups(t, list, []byte{3, 2, 1, 0, 3}, locks(8, 1), locks(5, 2), locks(3, 1), locks(2, 2, 9, 1))
	// Wants are not looked at: they may fall, be alike, or be none.
	odd := locks(9, 1, 3, 2, 3, 2, 0, 0, 99, 200)
	groups(t, odd, []byte{1, 0, 1, 0, 1}, locks(3, 2, 0, 0), locks(9, 1, 3, 2, 99, 200), nil, nil)
	var long, even, uneven []api.Want
	var owners []byte
	for n := range 1000 {
		w := api.Want{V: uint32(n), Mode: 1}
		long, owners = append(long, w), append(owners, byte(n%2))
		if n%2 == 0 {
			even = append(even, w)
		} else {
			uneven = append(uneven, w)
		}
	}
	groups(t, long, owners, even, uneven, nil, nil)
}

// P18.2: owners that there are not, which goes ahead of how many they are; too many of them, too few.
func TestGroupsWrong(t *testing.T) {
	list := locks(2, 2, 3, 1)
	for should, rows := range map[api.Errno][][]byte{
		api.ErrArg:  {{4, 0}, {0, 4}, {255, 0}, {0, 128}, {4}, {0, 1, 4}, {0, 0, 0, 0, 0, 0, 5}},
		api.ErrForm: {nil, {}, {0}, {3}, {0, 1, 2}, {0, 1, 2, 3, 0}},
	} {
		for _, owners := range rows {
			if got, e := plan.Groups(list, owners); len(got) > 0 || e != should {
				t.Errorf("Groups(%v, %v) = %v, %v, not %v", list, owners, got, e, should)
			}
		}
	}
	for _, none := range [][]api.Want{nil, {}} {
		if got, e := plan.Groups(none, []byte{0}); len(got) > 0 || e != api.ErrForm {
			t.Errorf("Groups(none, 0) = %v, %v", got, e)
		}
		if got, e := plan.Groups(none, []byte{4}); len(got) > 0 || e != api.ErrArg {
			t.Errorf("Groups(none, 4) = %v, %v", got, e)
		}
	}
}

// P18.3: what is read, and that reading changes nothing.
func TestRunReads(t *testing.T) {
	one := having(having(to(1, 2, 9), 0, number(5)), 3, text("a.b"))
	one.Halves[1].Val = text("x")
	verts := []api.Vertex{one, to(7)}
	answers(t, verts, ops(get(1, 0), get(1, 1), get(1, 3), edge(1, 2), edge(1, 9), degree(1)),
		[]api.Value{number(5), {}, text("a.b"), {}, text("x"), number(2)})
	answers(t, verts, ops(degree(7), need(1, 0, number(5)), need(7, 2, api.Value{}), get(7, 0)), []api.Value{number(0), {}})
	refuses(t, verts, ops(get(1, 0), edge(1, 7)), api.ErrNone, 1)
	refuses(t, verts, ops(edge(9, 1)), api.ErrNone, 0)
	refuses(t, verts, ops(degree(1), degree(9)), api.ErrNone, 1)
	refuses(t, verts, ops(need(1, 0, number(6))), api.ErrState, 0)
}

// P18.3: what changes is told as it is behind all operations, by rising vertices; the order of verts is nothing to it.
func TestRunChanges(t *testing.T) {
	x := text("x")
	verts := []api.Vertex{to(30), having(to(2, 5), 1, number(1)), to(5, 2), gone(7)}
	answers(t, verts, ops(add(7)), nil, to(7))
	answers(t, verts, ops(add(8)), nil, to(8))
	answers(t, verts, ops(del(30)), nil, gone(30))
	answers(t, verts, ops(set(30, 2, x)), nil, having(to(30), 2, x))
	answers(t, verts, ops(set(2, 1, number(2))), nil, having(to(2, 5), 1, number(2)))
	answers(t, verts, ops(set(2, 0, x)), nil, api.Vertex{ID: 2, There: true, Props: []api.Prop{{Key: 0, Val: x}, {Key: 1, Val: number(1)}}, Halves: []api.Half{{Far: 5}}})
	answers(t, verts, ops(set(2, 1, api.Value{})), nil, to(2, 5))
	answers(t, verts, ops(cut(5, 2)), nil, having(to(2), 1, number(1)), to(5))
	joined := []api.Vertex{to(5, 2), to(30)}
	joined[0].Halves = append(joined[0].Halves, api.Half{Far: 30, Val: x})
	joined[1].Halves = []api.Half{{Far: 5, Val: x}}
	answers(t, verts, ops(join(30, 5, x)), nil, joined...)
	answers(t, verts, ops(cut(2, 5), del(5), del(30), set(2, 1, api.Value{}), get(2, 1), add(1)), []api.Value{{}}, to(1), to(2), gone(5), gone(30))
	answers(t, verts, ops(set(5, 0, x), get(5, 0), get(2, 1)), []api.Value{x, number(1)}, having(to(5, 2), 0, x))
}

// P18.3: what is wanted Exclusive but is as it was isn't told, be it that nothing has happened to it or that it was undone.
func TestRunSame(t *testing.T) {
	x := text("x")
	two := having(to(2, 5), 1, x)
	verts := []api.Vertex{two, to(5, 2), to(6)}
	answers(t, verts, ops(set(2, 1, x)), nil)
	answers(t, verts, ops(set(2, 0, api.Value{})), nil)
	answers(t, verts, ops(set(2, 1, number(1)), set(2, 1, x)), nil)
	answers(t, verts, ops(add(9), del(9)), nil)
	answers(t, verts, ops(del(6), add(6)), nil)
	answers(t, verts, ops(cut(2, 5), join(5, 2, api.Value{})), nil)
	answers(t, verts, ops(join(2, 6, x), cut(6, 2)), nil)
	answers(t, verts, ops(set(2, 1, x), set(6, 0, x)), nil, having(to(6), 0, x))
	// What is another value, or has another kind, is not as it was.
	answers(t, verts, ops(cut(2, 5), join(5, 2, number(0))), nil,
		api.Vertex{ID: 2, There: true, Props: two.Props, Halves: []api.Half{{Far: 5, Val: number(0)}}},
		api.Vertex{ID: 5, There: true, Halves: []api.Half{{Far: 2, Val: number(0)}}})
	answers(t, verts, ops(set(2, 1, text(""))), nil, having(to(2, 5), 1, text("")))
	// A vertex that has lost what it had is there still.
	answers(t, []api.Vertex{having(to(3), 0, x)}, ops(del(3), add(3)), nil, to(3))
}

// P18.3: a refused operation: its error and its place, no vertices.
func TestRunRefused(t *testing.T) {
	full := api.Vertex{ID: 40, There: true}
	for far := range uint32(api.MaxHalves) {
		full.Halves = append(full.Halves, api.Half{Far: far + 1})
	}
	verts := []api.Vertex{to(20), to(2, 5), to(5, 2), gone(7), full}
	refuses(t, verts, ops(add(20)), api.ErrExists, 0)
	refuses(t, verts, ops(set(20, 0, number(1)), add(8), add(2)), api.ErrExists, 2)
	refuses(t, verts, ops(add(8), del(2)), api.ErrEdges, 1)
	refuses(t, verts, ops(del(7)), api.ErrNone, 0)
	refuses(t, verts, ops(del(20), set(20, 0, number(1))), api.ErrNone, 1)
	refuses(t, verts, ops(join(20, 7, number(1))), api.ErrNone, 0)
	refuses(t, verts, ops(join(20, 9, number(1))), api.ErrNone, 0)
	refuses(t, verts, ops(degree(20), join(5, 2, number(1))), api.ErrExists, 1)
	refuses(t, verts, ops(join(20, 40, number(1))), api.ErrFull, 0)
	refuses(t, verts, ops(cut(20, 2)), api.ErrNone, 0)
	refuses(t, verts, ops(add(10), add(11), add(12), add(13), add(14), need(2, 0, number(1))), api.ErrState, 5)
	refuses(t, []api.Vertex{gone(1)}, ops(get(1, 0)), api.ErrNone, 0)
}

// P18.3: a part of a graph, as one that holds some of its vertices has it: a half's other end may be elsewhere.
func TestRunPart(t *testing.T) {
	part := []api.Vertex{to(3, 9, 12)}
	answers(t, part, ops(edge(3, 9), degree(3)), []api.Value{{}, number(2)})
	answers(t, part, ops(set(3, 0, number(1))), nil, having(to(3, 9, 12), 0, number(1)))
	refuses(t, part, ops(del(3)), api.ErrEdges, 0)
	refuses(t, part, ops(get(9, 0)), api.ErrNone, 0)
	answers(t, []api.Vertex{to(3, 9, 12), to(9, 3, 30)}, ops(cut(3, 9)), nil, to(3, 12), to(9, 30))
}

// unformed is vertices of which there is none, alone or together.
func unformed() [][]api.Vertex {
	many := api.Vertex{ID: 40, There: true}
	for far := range uint32(api.MaxHalves + 1) {
		many.Halves = append(many.Halves, api.Half{Far: far + 1})
	}
	odd := api.Vertex{ID: 1, There: true, Halves: []api.Half{{Far: 2, Val: api.Value{Kind: 3}}}}
	halved, owned := to(1, 2), having(gone(1), 0, number(1))
	halved.There = false
	bad := []api.Vertex{{}, to(0), to(41), to(math.MaxUint32), gone(0), gone(41), halved, owned, many, odd, to(1, 1), to(1, 0), to(1, 41), to(1, 3, 2), to(1, 2, 2),
		having(to(1), 4, number(1)), having(to(1), 0, api.Value{}), having(to(1), 0, text("A")), having(having(to(1), 1, number(1)), 0, number(1)), having(having(to(1), 1, number(1)), 1, number(1))}
	lists := [][]api.Vertex{
		{to(7), to(7)}, {to(7), gone(7)}, {gone(7), to(7)}, {gone(7), gone(7)}, {to(7), to(1), to(7)}, {to(40, 1), to(1, 40), to(40, 2)}, {gone(1), gone(2), gone(1)},
		make([]api.Vertex, 1000), slices.Repeat([]api.Vertex{to(3)}, 1000),
	}
	for _, v := range bad {
		lists = append(lists, []api.Vertex{v}, []api.Vertex{to(9, 1), v}, []api.Vertex{v, to(9, 1)}, []api.Vertex{to(9), v, v})
	}
	return lists
}

// P18.3, P18.4: vertices that aren't in form, or stand there twice. That goes ahead of what operations are answered, and
// behind ErrLong.
func TestUnformed(t *testing.T) {
	for _, verts := range unformed() {
		fails(t, verts, ops(get(9, 0)), api.ErrForm)
		fails(t, verts, ops(add(20)), api.ErrForm)
		fails(t, verts, ops(add(0)), api.ErrForm)
		fails(t, verts, nil, api.ErrLong)
		fails(t, verts, make([]api.Op, 7), api.ErrLong)
		if got, e := plan.Frontier(verts); len(got) > 0 || e != api.ErrForm {
			t.Errorf("Frontier(%v) = %v, %v", verts, got, e)
		}
	}
}

// P18.4: the far vertices, rising, each once, be they among verts or not.
func TestFrontier(t *testing.T) {
	leads(t, nil)
	leads(t, []api.Vertex{})
	leads(t, []api.Vertex{to(1), to(2), gone(3)})
	leads(t, []api.Vertex{to(40, 1)}, 1)
	leads(t, []api.Vertex{to(1, 40)}, 40)
	leads(t, []api.Vertex{to(9, 8, 10), gone(3), to(7, 8, 9), to(1, 2, 40)}, 2, 8, 9, 10, 40)
	leads(t, []api.Vertex{to(3, 5), to(2, 5), to(1, 5)}, 5)
	leads(t, []api.Vertex{to(3, 30), to(2, 20), to(1, 10)}, 10, 20, 30)
	valued := to(1, 2, 3)
	valued.Halves[0].Val, valued.Halves[1].Val = text("b"), text("a")
	leads(t, []api.Vertex{having(valued, 0, number(30)), to(4, 3)}, 2, 3)
	var ring []api.Vertex
	var should []uint32
	for v := uint32(api.MaxVertex); v >= 1; v-- {
		ring = append(ring, to(v, v%api.MaxVertex+1))
		should = append(should, api.MaxVertex+1-v)
	}
	leads(t, ring, should...)
}
