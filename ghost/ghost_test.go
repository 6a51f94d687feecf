package ghost_test

import (
	"math"
	"math/rand"
	"slices"
	"testing"

	"gusset/api"
	"gusset/ghost"
	"gusset/graph"
)

// to is a vertex with halves to others.
func to(id uint32, fars ...uint32) api.Vertex {
	v := api.Vertex{ID: id, There: true}
	for _, far := range fars {
		v.Halves = append(v.Halves, api.Half{Far: far})
	}
	return v
}

// gone is a vertex that isn't There, though it may have halves.
func gone(id uint32, fars ...uint32) api.Vertex {
	v := to(id, fars...)
	v.There = false
	return v
}

// ghosts is ghosts of vertices, by pairs of a number and a count.
func ghosts(pairs ...int) []ghost.Ghost {
	var list []ghost.Ghost
	for i := 0; i < len(pairs); i += 2 {
		list = append(list, ghost.Ghost{V: uint32(pairs[i]), N: pairs[i+1]})
	}
	return list
}

// counts holds what Count and Cuts answer of the list against what they should.
func counts(t *testing.T, list []api.Vertex, should []ghost.Ghost, cuts ...uint32) {
	t.Helper()
	if got := ghost.Count(list); !slices.Equal(got, should) {
		t.Fatalf("Count(%v) = %v, not %v", list, got, should)
	}
	if got := ghost.Cuts(list); !slices.Equal(got, cuts) {
		t.Fatalf("Cuts(%v) = %v, not %v", list, got, cuts)
	}
}

// put puts the vertices to t.
func put(t *testing.T, tally *ghost.Tally, list ...api.Vertex) {
	t.Helper()
	for _, v := range list {
		if e := tally.Put(v); e != api.OK {
			t.Fatalf("Put(%v) = %v", v, e)
		}
	}
}

// tells holds List, and Of of each number up to some beyond the last vertex, against the ghosts.
func tells(t *testing.T, tally *ghost.Tally, should []ghost.Ghost) {
	t.Helper()
	if got := tally.List(); !slices.Equal(got, should) {
		t.Fatalf("List = %v, not %v", got, should)
	}
	for v := range uint32(api.MaxVertex + 3) {
		n := 0
		for _, g := range should {
			if g.V == v {
				n = g.N
			}
		}
		if got := tally.Of(v); got != n {
			t.Fatalf("Of(%d) = %d, not %d", v, got, n)
		}
	}
}

// P12.1, P12.2: the document's examples.
func TestExample(t *testing.T) {
	three, seven := to(3, 5, 7), to(7, 3, 5)
	counts(t, []api.Vertex{three, seven}, ghosts(5, 2), 3, 7)
	counts(t, []api.Vertex{three, seven, to(5)}, nil)
	counts(t, []api.Vertex{three, seven, gone(3)}, ghosts(3, 1, 5, 1), 7)
	tally := ghost.New()
	put(t, tally, three, seven)
	tells(t, tally, ghosts(5, 2))
	put(t, tally, to(5))
	tells(t, tally, nil)
	put(t, tally, gone(5), gone(3))
	tells(t, tally, ghosts(3, 1, 5, 1))
}

// P12.1: lists of vertices, as they are handed in.
func TestCount(t *testing.T) {
	counts(t, nil, nil)
	counts(t, []api.Vertex{}, nil)
	counts(t, []api.Vertex{to(1), to(2)}, nil)
	counts(t, []api.Vertex{to(1, 2)}, ghosts(2, 1), 1)
	counts(t, []api.Vertex{to(1, 2), to(2, 1)}, nil)
	counts(t, []api.Vertex{to(40, 1), to(9, 1, 40), to(2, 1)}, ghosts(1, 3), 2, 9, 40)
	counts(t, []api.Vertex{to(40, 39), to(9, 40), to(2, 38, 39)}, ghosts(38, 1, 39, 2), 2, 40)
	// A half back, or another value at it, is nothing to it.
	counts(t, []api.Vertex{to(1, 2, 3), {ID: 2, There: true, Halves: []api.Half{{Far: 3, Val: api.Value{Kind: 9}}}}}, ghosts(3, 2), 1, 2)
}

// P12.1: of several with one ID the last one counts, and alone, be it There or not.
func TestLast(t *testing.T) {
	counts(t, []api.Vertex{to(1, 2, 3), to(1, 4)}, ghosts(4, 1), 1)
	counts(t, []api.Vertex{to(1, 4), to(1, 2, 3)}, ghosts(2, 1, 3, 1), 1)
	counts(t, []api.Vertex{to(1, 4), to(1)}, nil)
	counts(t, []api.Vertex{to(1, 4), gone(1)}, nil)
	counts(t, []api.Vertex{gone(1), to(1, 4)}, ghosts(4, 1), 1)
	counts(t, []api.Vertex{to(1, 4), gone(1), to(1, 5)}, ghosts(5, 1), 1)
	counts(t, []api.Vertex{to(1, 4), to(1, 4), to(1, 4)}, ghosts(4, 1), 1)
	counts(t, []api.Vertex{to(4), to(1, 4), gone(4)}, ghosts(4, 1), 1)
	counts(t, []api.Vertex{gone(4), to(1, 4), to(4, 1)}, nil)
	counts(t, []api.Vertex{to(1, 4), to(2, 4), to(1)}, ghosts(4, 1), 2)
}

// P12.1: what isn't There isn't held, whatever it has; what isn't in form is taken by its words.
func TestFormless(t *testing.T) {
	counts(t, []api.Vertex{gone(1, 2), to(3, 1)}, ghosts(1, 1), 3)
	counts(t, []api.Vertex{gone(1, 2)}, nil)
	counts(t, []api.Vertex{to(1, 1)}, nil)
	counts(t, []api.Vertex{gone(1, 1)}, nil)
	counts(t, []api.Vertex{to(1, 5, 2, 5)}, ghosts(2, 1, 5, 2), 1)
	counts(t, []api.Vertex{to(1, 5, 5), to(2, 5), to(1, 5, 5, 5)}, ghosts(5, 4), 1, 2)
	counts(t, []api.Vertex{to(1, 5, 5), to(5)}, nil)
	counts(t, []api.Vertex{to(0, 0, math.MaxUint32), to(math.MaxUint32, 41, 0)}, ghosts(41, 1), math.MaxUint32)
	counts(t, []api.Vertex{to(math.MaxUint32, 0), to(41, math.MaxUint32, 0)}, ghosts(0, 2), 41, math.MaxUint32)
	counts(t, []api.Vertex{{ID: 1, There: true, Props: []api.Prop{{Key: 9}}, Halves: []api.Half{{Far: 2, Val: api.Value{Kind: 7}}}}}, ghosts(2, 1), 1)
	var many []uint32
	var should []ghost.Ghost
	for far := uint32(1000); far > 100; far-- {
		many = append(many, far)
		should = append(should, ghost.Ghost{V: 1101 - far, N: 1})
	}
	counts(t, []api.Vertex{to(7, many...)}, should, 7)
}

// P12.2: vertices come, change and go; their ghosts with them.
func TestTally(t *testing.T) {
	tally := ghost.New()
	tells(t, tally, nil)
	for _, step := range []struct {
		v      api.Vertex
		should []ghost.Ghost
	}{
		{to(1), nil},
		{to(1, 2, 40), ghosts(2, 1, 40, 1)},
		{to(1, 2, 40), ghosts(2, 1, 40, 1)},
		{to(3, 2), ghosts(2, 2, 40, 1)},
		{to(1, 2), ghosts(2, 2)},
		{to(2, 1, 3), nil},
		{gone(1), ghosts(1, 1)},
		{gone(1), ghosts(1, 1)},
		{to(2, 1, 3, 5), ghosts(1, 1, 5, 1)},
		{gone(40), ghosts(1, 1, 5, 1)},
		{gone(2), ghosts(2, 1)},
		{to(3), nil},
		{to(3, 1, 2), ghosts(1, 1, 2, 1)},
		{gone(3), nil},
	} {
		put(t, tally, step.v)
		tells(t, tally, step.should)
	}
}

// wrong is vertices that are not in form.
func wrong() []api.Vertex {
	value := api.Value{Kind: api.Int}
	return []api.Vertex{
		{}, {There: true}, {ID: 41}, to(41, 1), to(math.MaxUint32), gone(1, 2), gone(0),
		{ID: 1, Props: []api.Prop{{Val: value}}}, {ID: 1, There: true, Props: []api.Prop{{}}},
		{ID: 1, There: true, Props: []api.Prop{{Key: 4, Val: value}}}, {ID: 1, There: true, Props: []api.Prop{{Key: 1, Val: value}, {Key: 1, Val: value}}},
		to(1, 0), to(1, 1), to(1, 41), to(1, 5, 5), to(1, 5, 4), {ID: 1, There: true, Halves: []api.Half{{Far: 2, Val: api.Value{Kind: 3}}}},
		to(1, 2, 3, 4, 5, 6, 7, 8, 9, 10, 11, 12, 13, 14, 15, 16, 17, 18),
	}
}

// P12.2: what is not in form is refused, and nothing has changed.
func TestPutWrong(t *testing.T) {
	tally := ghost.New()
	put(t, tally, to(1, 2, 3), to(3, 1, 7))
	for _, v := range wrong() {
		if e := tally.Put(v); e != api.ErrForm {
			t.Errorf("Put(%v) = %v", v, e)
		}
		if e := (*ghost.Tally)(nil).Put(v); e != api.ErrForm {
			t.Errorf("Put(%v) of a nil *Tally = %v", v, e)
		}
		tells(t, tally, ghosts(2, 1, 7, 1))
	}
}

// P12.2: a nil *Tally.
func TestNil(t *testing.T) {
	var tally *ghost.Tally
	for _, v := range []api.Vertex{to(1, 2), gone(1), to(40)} {
		if e := tally.Put(v); e != api.ErrNone {
			t.Errorf("Put(%v) = %v", v, e)
		}
	}
	tells(t, tally, nil)
	if n := tally.Of(math.MaxUint32); n != 0 {
		t.Errorf("Of = %d", n)
	}
}

// Of numbers that no vertex has there is no ghost.
func TestOf(t *testing.T) {
	tally := ghost.New()
	put(t, tally, to(1, 40))
	for _, v := range []uint32{0, 1, 2, 41, 1 << 31, math.MaxUint32} {
		if n := tally.Of(v); n != 0 {
			t.Errorf("Of(%d) = %d", v, n)
		}
	}
	if n := tally.Of(40); n != 1 {
		t.Errorf("Of(40) = %d", n)
	}
}

// P12.2: all vertices that there may be, with as many halves as they may have.
func TestAll(t *testing.T) {
	tally := ghost.New()
	var list []api.Vertex
	for id := uint32(1); id <= 20; id++ {
		v := to(id)
		for far := uint32(25); far <= api.MaxVertex; far++ {
			v.Halves = append(v.Halves, api.Half{Far: far})
		}
		list = append(list, v)
	}
	var should []ghost.Ghost
	var cuts []uint32
	for v := 25; v <= api.MaxVertex; v++ {
		should = append(should, ghosts(v, 20)...)
	}
	for id := range uint32(20) {
		cuts = append(cuts, id+1)
	}
	slices.Reverse(list)
	counts(t, list, should, cuts...)
	put(t, tally, list...)
	tells(t, tally, should)
	for v := uint32(25); v <= api.MaxVertex; v++ {
		put(t, tally, to(v))
		tells(t, tally, should[v-24:])
	}
}

// The rule of memory: what is handed in is neither changed nor kept; what is answered is new.
func TestMemory(t *testing.T) {
	halves := []api.Half{{Far: 5}, {Far: 7}, {Far: 9}}
	list := []api.Vertex{{ID: 1, There: true, Halves: halves[:2]}, to(2, 5), to(8, 5)}
	tally := ghost.New()
	put(t, tally, list...)
	for range 2 {
		counts(t, list[:2], ghosts(5, 2, 7, 1), 1, 2)
	}
	if halves[2].Far != 9 || list[2].ID != 8 || len(list[2].Halves) != 1 {
		t.Errorf("spare room has changed: %v, %v", halves, list)
	}
	clear(halves)
	clear(list)
	tells(t, tally, ghosts(5, 3, 7, 1))
	one, two := tally.List(), tally.List()
	clear(one[:cap(one)])
	if !slices.Equal(two, ghosts(5, 3, 7, 1)) {
		t.Errorf("lists share memory: %v", two)
	}
	tells(t, tally, two)
	put(t, tally, gone(8), gone(1))
	if !slices.Equal(two, ghosts(5, 3, 7, 1)) {
		t.Errorf("what was answered has changed: %v", two)
	}
	tells(t, tally, ghosts(5, 1))
}

// The promises on objects: one tally knows nothing of another one.
func TestTwo(t *testing.T) {
	one, two := ghost.New(), ghost.New()
	put(t, one, to(1, 2))
	put(t, two, to(3, 2, 4))
	put(t, one, to(2))
	tells(t, one, nil)
	tells(t, two, ghosts(2, 1, 4, 1))
}

// modelOf is the ghosts and the cuts of a list, told for each number by going through all of the list.
func modelOf(list []api.Vertex, numbers []uint32) (should []ghost.Ghost, cuts []uint32) {
	held := func(id uint32) (its []api.Half, is bool) {
		for _, v := range list {
			if v.ID == id {
				its, is = v.Halves, v.There
			}
		}
		return its, is
	}
	for _, id := range numbers {
		its, is := held(id)
		cut := slices.ContainsFunc(its, func(h api.Half) bool { _, far := held(h.Far); return !far })
		if is && cut {
			cuts = append(cuts, id)
		}
		n := 0
		for _, near := range numbers {
			if its, is := held(near); is {
				for _, h := range its {
					if h.Far == id {
						n++
					}
				}
			}
		}
		if n > 0 && !is {
			should = append(should, ghost.Ghost{V: id, N: n})
		}
	}
	return should, cuts
}

// P12.1, P12.2: lists by chance against the model; a tally to which what is in form of them was put against it, too.
func TestByChance(t *testing.T) {
	for seed := range int64(60) {
		r := rand.New(rand.NewSource(seed))
		numbers := []uint32{0, 1, 2, 3, 7, 39, 40, 41, math.MaxUint32}
		if seed%2 == 0 {
			numbers = []uint32{1, 2, 3, 4, 5, 6, 7, 8, 40}
		}
		one := func() uint32 { return numbers[r.Intn(len(numbers))] }
		tally := ghost.New()
		var list, formed []api.Vertex
		for range 40 {
			v := api.Vertex{ID: one(), There: r.Intn(4) > 0}
			for range r.Intn(4) * r.Intn(2) {
				v.Halves = append(v.Halves, api.Half{Far: one()})
			}
			list = append(list, v)
			should, cuts := modelOf(list, numbers)
			counts(t, list, should, cuts...)
			e := tally.Put(v)
			if e != graph.New().Put(v) {
				t.Fatalf("Put(%v) = %v", v, e)
			}
			if e == api.OK {
				formed = append(formed, v)
			}
			should, _ = modelOf(formed, numbers)
			tells(t, tally, should)
			if got := ghost.Count(formed); !slices.Equal(got, should) {
				t.Fatalf("Count(%v) = %v, not %v", formed, got, should)
			}
		}
	}
}
