package span_test

import (
	"math"
	"math/rand"
	"slices"
	"testing"

	"gusset/api"
	"gusset/span"
)

const most = math.MaxUint32

// want holds an error against what it should be.
func want(t *testing.T, what string, got, should api.Errno) {
	t.Helper()
	if got != should {
		t.Fatalf("%s: %v, not %v", what, got, should)
	}
}

// of is the set of a list that is in order.
func of(t *testing.T, list ...span.Span) *span.Set {
	t.Helper()
	s, e := span.Of(list)
	if e != api.OK || s == nil {
		t.Fatalf("Of(%v) = %v, %v", list, s, e)
	}
	return s
}

// has holds all spans of a set against what they should be.
func has(t *testing.T, s *span.Set, should ...span.Span) {
	t.Helper()
	if got := s.Spans(); !slices.Equal(got, should) {
		t.Fatalf("Spans = %v, not %v", got, should)
	}
}

// P8.1, P8.2: the document's examples.
func TestExamples(t *testing.T) {
	s := span.New()
	want(t, "Add", s.Add(1, 3), api.OK)
	want(t, "Add", s.Add(5, 7), api.OK)
	has(t, s, span.Span{From: 1, To: 3}, span.Span{From: 5, To: 7})
	want(t, "Add", s.Add(4, 4), api.OK)
	has(t, s, span.Span{From: 1, To: 7})
	want(t, "Drop", s.Drop(2, 3), api.OK)
	has(t, s, span.Span{From: 1, To: 1}, span.Span{From: 4, To: 7})
	if n, ok := s.Free(4); n != 8 || !ok || s.Count() != 5 {
		t.Fatalf("Free(4) = %d, %v; Count = %d", n, ok, s.Count())
	}
	all := of(t, span.Span{From: 0, To: most})
	if n, ok := all.Free(5); n != 0 || ok || all.Count() != 1<<32 {
		t.Fatalf("Free(5) = %d, %v; Count = %d", n, ok, all.Count())
	}
}

// P8.1: of a new set.
func TestNew(t *testing.T) {
	s := span.New()
	has(t, s)
	for _, n := range []uint32{0, 1, most - 1, most} {
		if free, ok := s.Free(n); s.Has(n) || free != n || !ok {
			t.Errorf("a new set: Has(%d) = %v, Free = %d, %v", n, s.Has(n), free, ok)
		}
	}
	if s.Count() != 0 {
		t.Errorf("Count = %d", s.Count())
	}
	want(t, "Drop of nothing", s.Drop(0, most), api.OK)
	has(t, s)
}

// P8.1: Add, where spans are apart, touch, overlap, or lie in one another.
func TestAdd(t *testing.T) {
	for _, c := range []struct {
		from, to uint32
		should   []span.Span
	}{
		{1, 8, []span.Span{{1, 8}, {10, 20}, {30, 40}}}, {1, 9, []span.Span{{1, 20}, {30, 40}}}, {1, 10, []span.Span{{1, 20}, {30, 40}}},
		{10, 20, []span.Span{{10, 20}, {30, 40}}}, {15, 15, []span.Span{{10, 20}, {30, 40}}}, {10, 21, []span.Span{{10, 21}, {30, 40}}},
		{20, 21, []span.Span{{10, 21}, {30, 40}}}, {21, 21, []span.Span{{10, 21}, {30, 40}}}, {22, 22, []span.Span{{10, 20}, {22, 22}, {30, 40}}},
		{22, 28, []span.Span{{10, 20}, {22, 28}, {30, 40}}}, {22, 29, []span.Span{{10, 20}, {22, 40}}}, {21, 28, []span.Span{{10, 28}, {30, 40}}},
		{21, 29, []span.Span{{10, 40}}}, {20, 30, []span.Span{{10, 40}}}, {15, 35, []span.Span{{10, 40}}}, {9, 41, []span.Span{{9, 41}}},
		{0, most, []span.Span{{0, most}}}, {0, 0, []span.Span{{0, 0}, {10, 20}, {30, 40}}}, {most, most, []span.Span{{10, 20}, {30, 40}, {most, most}}},
		{41, most, []span.Span{{10, 20}, {30, most}}}, {40, most, []span.Span{{10, 20}, {30, most}}}, {42, 50, []span.Span{{10, 20}, {30, 40}, {42, 50}}},
		{0, 9, []span.Span{{0, 20}, {30, 40}}},
	} {
		s := of(t, span.Span{From: 10, To: 20}, span.Span{From: 30, To: 40})
		want(t, "Add", s.Add(c.from, c.to), api.OK)
		has(t, s, c.should...)
	}
}

// P8.1: Drop of nothing, of pieces at each side and in the midst, of all.
func TestDrop(t *testing.T) {
	for _, c := range []struct {
		from, to uint32
		should   []span.Span
	}{
		{0, 9, []span.Span{{10, 20}, {30, 40}}}, {0, 10, []span.Span{{11, 20}, {30, 40}}}, {10, 10, []span.Span{{11, 20}, {30, 40}}},
		{20, 20, []span.Span{{10, 19}, {30, 40}}}, {21, 29, []span.Span{{10, 20}, {30, 40}}}, {11, 19, []span.Span{{10, 10}, {20, 20}, {30, 40}}},
		{15, 15, []span.Span{{10, 14}, {16, 20}, {30, 40}}}, {10, 20, []span.Span{{30, 40}}}, {9, 21, []span.Span{{30, 40}}},
		{15, 35, []span.Span{{10, 14}, {36, 40}}}, {20, 30, []span.Span{{10, 19}, {31, 40}}}, {10, 40, nil}, {0, most, nil},
		{10, 39, []span.Span{{40, 40}}}, {11, 40, []span.Span{{10, 10}}}, {41, most, []span.Span{{10, 20}, {30, 40}}},
		{40, most, []span.Span{{10, 20}, {30, 39}}}, {0, 39, []span.Span{{40, 40}}},
	} {
		s := of(t, span.Span{From: 10, To: 20}, span.Span{From: 30, To: 40})
		want(t, "Drop", s.Drop(c.from, c.to), api.OK)
		has(t, s, c.should...)
	}
}

// P8.1: the ends of the numbers' range.
func TestEnds(t *testing.T) {
	s := of(t, span.Span{From: 0, To: most})
	want(t, "Drop", s.Drop(0, 0), api.OK)
	want(t, "Drop", s.Drop(most, most), api.OK)
	has(t, s, span.Span{From: 1, To: most - 1})
	if n, ok := s.Free(1); n != most || !ok || s.Count() != 1<<32-2 || s.Has(0) || s.Has(most) || !s.Has(1) || !s.Has(most-1) {
		t.Fatalf("Free(1) = %d, %v; Count %d", n, ok, s.Count())
	}
	want(t, "Drop", s.Drop(2, most-2), api.OK)
	has(t, s, span.Span{From: 1, To: 1}, span.Span{From: most - 1, To: most - 1})
	want(t, "Add", s.Add(most, most), api.OK)
	want(t, "Add", s.Add(0, 0), api.OK)
	has(t, s, span.Span{From: 0, To: 1}, span.Span{From: most - 1, To: most})
	if n, ok := s.Free(most - 1); n != 0 || ok {
		t.Fatalf("Free = %d, %v", n, ok)
	}
	if n, ok := s.Free(most - 2); n != most-2 || !ok {
		t.Fatalf("Free = %d, %v", n, ok)
	}
	if n, ok := s.Free(0); n != 2 || !ok || s.Count() != 4 {
		t.Fatalf("Free(0) = %d, %v; Count %d", n, ok, s.Count())
	}
	want(t, "Add", s.Add(2, most-2), api.OK)
	has(t, s, span.Span{From: 0, To: most})
	if !s.Has(0) || !s.Has(most) || s.Count() != 1<<32 {
		t.Fatalf("Count %d", s.Count())
	}
	want(t, "Add", s.Add(0, most), api.OK)
	has(t, s, span.Span{From: 0, To: most})
	want(t, "Drop", s.Drop(0, most), api.OK)
	has(t, s)
}

// P8.1: what is refused changes nothing.
func TestAddWrong(t *testing.T) {
	s := of(t, span.Span{From: 3, To: 9})
	for _, c := range [][2]uint32{{1, 0}, {5, 4}, {most, 0}, {most, most - 1}, {9, 3}} {
		want(t, "Add", s.Add(c[0], c[1]), api.ErrArg)
		want(t, "Drop", s.Drop(c[0], c[1]), api.ErrArg)
	}
	has(t, s, span.Span{From: 3, To: 9})
}

// P8.1, P8.2: of a nil set; of several errors the least number.
func TestNilSet(t *testing.T) {
	var s *span.Set
	for _, c := range [][2]uint32{{0, 0}, {1, 5}, {0, most}, {most, most}} {
		want(t, "Add", s.Add(c[0], c[1]), api.ErrNone)
		want(t, "Drop", s.Drop(c[0], c[1]), api.ErrNone)
	}
	for _, c := range [][2]uint32{{1, 0}, {most, 0}} {
		want(t, "Add", s.Add(c[0], c[1]), api.ErrArg)
		want(t, "Drop", s.Drop(c[0], c[1]), api.ErrArg)
	}
	for _, n := range []uint32{0, 7, most} {
		if free, ok := s.Free(n); s.Has(n) || free != n || !ok {
			t.Errorf("Has(%d) = %v, Free = %d, %v", n, s.Has(n), free, ok)
		}
	}
	if s.Count() != 0 || len(s.Spans()) != 0 {
		t.Errorf("Count %d, Spans %v", s.Count(), s.Spans())
	}
	for _, pair := range [][2]*span.Set{{nil, nil}, {nil, span.New()}, {span.New(), nil}} {
		if m, e := pair[0].Meet(pair[1]); m != nil || e != api.ErrNone {
			t.Errorf("Meet = %v, %v", m, e)
		}
	}
}

// P8.2: Of lists in any order, with spans alike, within, over and beside one another.
func TestOf(t *testing.T) {
	for _, c := range []struct{ list, should []span.Span }{
		{nil, nil}, {[]span.Span{}, nil}, {[]span.Span{{7, 7}}, []span.Span{{7, 7}}},
		{[]span.Span{{5, 7}, {1, 3}}, []span.Span{{1, 3}, {5, 7}}}, {[]span.Span{{5, 7}, {1, 4}}, []span.Span{{1, 7}}},
		{[]span.Span{{5, 7}, {1, 3}, {4, 4}}, []span.Span{{1, 7}}}, {[]span.Span{{1, 9}, {2, 3}, {5, 6}}, []span.Span{{1, 9}}},
		{[]span.Span{{2, 3}, {1, 9}, {9, 9}, {1, 1}}, []span.Span{{1, 9}}}, {[]span.Span{{4, 8}, {4, 8}, {4, 5}}, []span.Span{{4, 8}}},
		{[]span.Span{{most, most}, {0, 0}}, []span.Span{{0, 0}, {most, most}}}, {[]span.Span{{1, most}, {0, 0}}, []span.Span{{0, most}}},
		{[]span.Span{{most, most}, {0, most - 1}}, []span.Span{{0, most}}}, {[]span.Span{{9, most}, {0, 7}}, []span.Span{{0, 7}, {9, most}}},
		{[]span.Span{{0, most}, {3, 4}, {most, most}}, []span.Span{{0, most}}},
	} {
		before := slices.Clone(c.list)
		has(t, of(t, c.list...), c.should...)
		if !slices.Equal(c.list, before) {
			t.Fatal("what was handed in has changed")
		}
	}
}

// P8.2: a list with a span that is none, wherever it stands.
func TestOfWrong(t *testing.T) {
	for _, list := range [][]span.Span{
		{{1, 0}}, {{most, 0}}, {{1, 2}, {3, 4}, {6, 5}}, {{6, 5}, {1, 2}}, {{0, most}, {5, 4}}, {{1, 2}, {most, most - 1}, {3, 4}},
	} {
		if s, e := span.Of(list); s != nil || e != api.ErrArg {
			t.Errorf("Of(%v) = %v, %v", list, s, e)
		}
	}
}

// P8.2: Meet.
func TestMeet(t *testing.T) {
	for _, c := range []struct{ a, b, should []span.Span }{
		{nil, nil, nil}, {[]span.Span{{0, most}}, nil, nil}, {[]span.Span{{0, most}}, []span.Span{{0, most}}, []span.Span{{0, most}}},
		{[]span.Span{{1, 5}}, []span.Span{{6, 9}}, nil}, {[]span.Span{{1, 5}}, []span.Span{{5, 9}}, []span.Span{{5, 5}}},
		{[]span.Span{{1, 9}}, []span.Span{{2, 3}, {5, 5}, {8, 12}}, []span.Span{{2, 3}, {5, 5}, {8, 9}}},
		{[]span.Span{{1, 3}, {5, 7}}, []span.Span{{3, 5}}, []span.Span{{3, 3}, {5, 5}}},
		{[]span.Span{{1, 3}, {5, 7}}, []span.Span{{0, 3}, {5, 8}}, []span.Span{{1, 3}, {5, 7}}},
		{[]span.Span{{0, 0}, {most, most}}, []span.Span{{0, most}}, []span.Span{{0, 0}, {most, most}}},
		{[]span.Span{{0, 0}, {most, most}}, []span.Span{{1, most - 1}}, nil},
		{[]span.Span{{4, most}}, []span.Span{{0, 9}, {20, most}}, []span.Span{{4, 9}, {20, most}}},
	} {
		a, b := of(t, c.a...), of(t, c.b...)
		for _, pair := range [][2]*span.Set{{a, b}, {b, a}} {
			m, e := pair[0].Meet(pair[1])
			want(t, "Meet", e, api.OK)
			has(t, m, c.should...)
		}
		has(t, a, c.a...)
		has(t, b, c.b...)
	}
}

// P8.2: Meet of a set with itself, and that what is met is a set of its own.
func TestMeetApart(t *testing.T) {
	a := of(t, span.Span{From: 1, To: 3}, span.Span{From: 8, To: 9})
	m, e := a.Meet(a)
	want(t, "Meet", e, api.OK)
	has(t, m, a.Spans()...)
	want(t, "Add", m.Add(4, 7), api.OK)
	want(t, "Drop", a.Drop(1, 1), api.OK)
	has(t, m, span.Span{From: 1, To: 9})
	has(t, a, span.Span{From: 2, To: 3}, span.Span{From: 8, To: 9})
}

// model is which of a few numbers are in a set, with their spans.
type model []bool

func (m model) put(from, to int, in bool) {
	for i := from; i <= to; i++ {
		m[i] = in
	}
}

// spans is the model's spans, its numbers counted from base on.
func (m model) spans(base uint32) []span.Span {
	var list []span.Span
	for i, in := range m {
		n := base + uint32(i)
		switch {
		case !in:
		case i > 0 && m[i-1]:
			list[len(list)-1].To = n
		default:
			list = append(list, span.Span{From: n, To: n})
		}
	}
	return list
}

func (m model) count() uint64 {
	n := 0
	for _, in := range m {
		if in {
			n++
		}
	}
	return uint64(n)
}

// free is the least number from i on that isn't in the set; false: it would be beyond 2^32 - 1.
func (m model) free(i int, base uint32) (uint32, bool) {
	for i < len(m) && m[i] {
		i++
	}
	n := uint64(base) + uint64(i)
	if n > most {
		return 0, false
	}
	return uint32(n), true
}

// compare holds all that a set tells against what the model tells.
func (m model) compare(t *testing.T, s *span.Set, base uint32) {
	t.Helper()
	has(t, s, m.spans(base)...)
	if s.Count() != m.count() {
		t.Fatalf("Count = %d, not %d", s.Count(), m.count())
	}
	for i, in := range m {
		n := base + uint32(i)
		free, ok := m.free(i, base)
		if got, gotOk := s.Free(n); s.Has(n) != in || got != free || gotOk != ok {
			t.Fatalf("Has(%d) = %v, Free = %d, %v, not %v, %d, %v", n, s.Has(n), got, gotOk, in, free, ok)
		}
	}
}

// pair is two places, by chance, the lesser one first.
func pair(random *rand.Rand, below int) (int, int) {
	i, k := random.Intn(below), random.Intn(below)
	return min(i, k), max(i, k)
}

// P8.1: a set does as the model, step by step, at the beginning, in the midst and at the end of the numbers.
func TestAsModel(t *testing.T) {
	const few = 24
	for _, base := range []uint32{0, 1, 1 << 31, most - few, most - few + 1} {
		for seed := range int64(40) {
			random := rand.New(rand.NewSource(seed))
			m, s := make(model, few), span.New()
			for range 60 {
				from, to := pair(random, few)
				if random.Intn(2) == 0 {
					to = min(to, from+2)
				}
				in := random.Intn(2) == 0
				m.put(from, to, in)
				do := s.Drop
				if in {
					do = s.Add
				}
				want(t, "a step", do(base+uint32(from), base+uint32(to)), api.OK)
				m.compare(t, s, base)
			}
		}
	}
}

// P8.2: Of and Meet do as the model.
func TestOfAsModel(t *testing.T) {
	const few = 24
	for _, base := range []uint32{0, 77, most - few + 1} {
		random := rand.New(rand.NewSource(int64(base)))
		draw := func() (model, *span.Set) {
			m := make(model, few)
			var list []span.Span
			for range random.Intn(9) {
				from, to := pair(random, few)
				to = min(to, from+random.Intn(6))
				m.put(from, to, true)
				list = append(list, span.Span{From: base + uint32(from), To: base + uint32(to)})
			}
			return m, of(t, list...)
		}
		for range 2000 {
			m, s := draw()
			m.compare(t, s, base)
			n, other := draw()
			both, e := s.Meet(other)
			want(t, "Meet", e, api.OK)
			for i := range n {
				n[i] = n[i] && m[i]
			}
			n.compare(t, both, base)
			m.compare(t, s, base)
		}
	}
}

// P1: many spans.
func TestMany(t *testing.T) {
	const many = 300000
	list := make([]span.Span, 0, many)
	for i := range uint32(many) {
		n := (i*7919%many + 1) * 10
		list = append(list, span.Span{From: n, To: n + 3})
	}
	s := of(t, list...)
	if s.Count() != 4*many || len(s.Spans()) != many {
		t.Fatalf("Count %d, %d spans", s.Count(), len(s.Spans()))
	}
	m, e := s.Meet(of(t, span.Span{From: 0, To: 15}, span.Span{From: 23, To: 29}))
	want(t, "Meet", e, api.OK)
	has(t, m, span.Span{From: 10, To: 13}, span.Span{From: 23, To: 23})
	want(t, "Drop", s.Drop(12, most), api.OK)
	has(t, s, span.Span{From: 10, To: 11})
}

// The rule of memory: neither is kept what is handed in, nor handed out what is kept.
func TestMemory(t *testing.T) {
	list := []span.Span{{From: 5, To: 7}, {From: 1, To: 2}, {From: 9, To: 9}}
	s, e := span.Of(list[:2])
	want(t, "Of", e, api.OK)
	if !slices.Equal(list, []span.Span{{5, 7}, {1, 2}, {9, 9}}) {
		t.Fatal("what was handed in has changed")
	}
	list[0], list[1] = span.Span{From: 80, To: 90}, span.Span{From: 80, To: 90}
	first, second := s.Spans(), s.Spans()
	for i := range first[:cap(first)] {
		first[:cap(first)][i] = span.Span{From: 3, To: 3}
	}
	should := []span.Span{{From: 1, To: 2}, {From: 5, To: 7}}
	if !slices.Equal(second, should) {
		t.Fatal("two answers share memory")
	}
	has(t, s, should...)
	want(t, "Add", s.Add(0, 9), api.OK)
	want(t, "Drop", s.Drop(0, 1), api.OK)
	if !slices.Equal(second, should) {
		t.Fatal("an answer shares memory with the set")
	}
}
