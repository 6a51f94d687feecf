package store_test

import (
	"bytes"
	"encoding/hex"
	"math"
	"reflect"
	"slices"
	"strings"
	"testing"
	"unsafe"

	"gusset/api"
	"gusset/store"
)

// code is the bytes that a text tells to the base 16.
func code(s string) []byte {
	p, err := hex.DecodeString(strings.ReplaceAll(s, " ", ""))
	if err != nil {
		panic(err)
	}
	return p
}

func num(n int64) api.Value { return api.Value{Kind: api.Int, N: n} }

func txt(s string) api.Value { return api.Value{Kind: api.Text, S: s} }

// to is a vertex with halves to others, each with None.
func to(id uint32, fars ...uint32) api.Vertex {
	v := api.Vertex{ID: id, There: true}
	for _, far := range fars {
		v.Halves = append(v.Halves, api.Half{Far: far})
	}
	return v
}

// great is a vertex with as much as it may have, whose bytes are as many as there may be.
func great(id uint32) api.Vertex {
	v := api.Vertex{ID: id, There: true}
	for key := range byte(api.MaxKey + 1) {
		v.Props = append(v.Props, api.Prop{Key: key, Val: txt("a.b-0zzz")})
	}
	for far := uint32(1); len(v.Halves) < api.MaxHalves; far++ {
		if far != id {
			v.Halves = append(v.Halves, api.Half{Far: far, Val: num(math.MinInt64 + int64(far))})
		}
	}
	return v
}

// alike tells whether two vertices are the same; nil and empty lists are.
func alike(a, b api.Vertex) bool {
	return a.ID == b.ID && a.There == b.There && slices.Equal(a.Props, b.Props) && slices.Equal(a.Halves, b.Halves)
}

// want holds an error against what it should be.
func want(t *testing.T, what string, got, should api.Errno) {
	t.Helper()
	if got != should {
		t.Fatalf("%s: %v, not %v", what, got, should)
	}
}

// with is a store to which the vertices were put.
func with(t *testing.T, list ...api.Vertex) *store.Store {
	t.Helper()
	s := store.New()
	for _, v := range list {
		want(t, "Put", s.Put(v), api.OK)
	}
	return s
}

// ranges holds what Range answers against a list.
func ranges(t *testing.T, s *store.Store, from, to uint32, should ...api.Vertex) {
	t.Helper()
	if got := s.Range(from, to); !slices.EqualFunc(got, should, alike) {
		t.Fatalf("Range(%d, %d) = %+v, not %+v", from, to, got, should)
	}
}

// names holds what Naming answers against a list.
func names(t *testing.T, s *store.Store, far uint32, should ...uint32) {
	t.Helper()
	if got := s.Naming(far); !slices.Equal(got, should) {
		t.Fatalf("Naming(%d) = %v, not %v", far, got, should)
	}
}

// dumps holds what s dumps, and what a store loaded from that tells, against the bytes.
func dumps(t *testing.T, s *store.Store, should []byte) {
	t.Helper()
	if p, e := s.Dump(); e != api.OK || !bytes.Equal(p, should) {
		t.Fatalf("Dump = % x, %v, not % x", p, e, should)
	}
	again, e := store.Load(should)
	want(t, "Load", e, api.OK)
	if p, e := again.Dump(); e != api.OK || !bytes.Equal(p, should) {
		t.Fatalf("Dump of what was loaded = % x, %v, not % x", p, e, should)
	}
	if got, was := again.Range(0, math.MaxUint32), s.Range(0, math.MaxUint32); !slices.EqualFunc(got, was, alike) {
		t.Fatalf("loaded: %+v, not %+v", got, was)
	}
	for far := range uint32(api.MaxVertex + 2) {
		names(t, again, far, s.Naming(far)...)
	}
}

// lacks holds Load's error of p.
func lacks(t *testing.T, what string, p []byte, should api.Errno) {
	t.Helper()
	if s, e := store.Load(p); s != nil || e != should {
		t.Errorf("%s: Load(%.80x) = %v, %v, not %v", what, p, s, e, should)
	}
}

// P11.1, P11.2: the document's examples.
func TestExample(t *testing.T) {
	s := with(t, to(3, 5))
	names(t, s, 5, 3)
	dumps(t, s, code("01 01 01 03 01 00 01 01 01 05 00"))
	lacks(t, "they fall", code("01 02 01 03 01 00 00 01 02 01 00 00"), api.ErrForm)
	dumps(t, with(t, to(2), to(3)), code("01 02 01 02 01 00 00 01 03 01 00 00"))
}

// P11.1: a vertex is held as it was put last, and isn't, if it wasn't There.
func TestPut(t *testing.T) {
	s := store.New()
	for _, v := range []api.Vertex{
		to(3, 5, 7), to(3), great(3), to(3, 1),
		{ID: 3, There: true, Props: []api.Prop{{Key: 1, Val: num(5)}, {Key: 3, Val: txt("")}}},
		{ID: 3, There: true, Props: []api.Prop{}, Halves: []api.Half{{Far: 40, Val: txt("x")}}},
	} {
		want(t, "Put", s.Put(v), api.OK)
		got, held := s.Get(3)
		if !held || !alike(got, v) || s.Len() != 1 {
			t.Errorf("Put(%+v): Get = %+v, %v; Len = %d", v, got, held, s.Len())
		}
		ranges(t, s, 0, math.MaxUint32, v)
	}
	for range 2 {
		want(t, "Put of what isn't there", s.Put(api.Vertex{ID: 3, Props: []api.Prop{}}), api.OK)
		if got, held := s.Get(3); held || !alike(got, api.Vertex{ID: 3}) || s.Len() != 0 {
			t.Errorf("Get = %+v, %v; Len = %d", got, held, s.Len())
		}
		ranges(t, s, 0, math.MaxUint32)
		names(t, s, 40)
	}
	want(t, "Put", s.Put(to(3, 40)), api.OK)
	names(t, s, 40, 3)
}

// P11.1: each of several may go, in any order; the others stay as they were.
func TestGo(t *testing.T) {
	list := []api.Vertex{to(1, 2, 9), to(2, 1, 9), great(3), to(40, 9)}
	for first := range list {
		for second := range list {
			s := with(t, list[2], list[0], list[3], list[1])
			s.Put(api.Vertex{ID: list[first].ID})
			s.Put(api.Vertex{ID: list[second].ID})
			var left []api.Vertex
			for i, v := range list {
				if i != first && i != second {
					left = append(left, v)
				}
			}
			holdModel(t, s, modelOf(left...))
		}
	}
}

// P11.1: what is held, and what isn't, asked at the ends and beyond them.
func TestAsk(t *testing.T) {
	one, three, last := to(1, 3, 40), great(3), to(40, 1)
	s := with(t, three, last, one)
	for _, id := range []uint32{0, 2, 4, 39, 41, 1 << 31, math.MaxUint32} {
		if got, held := s.Get(id); held || !alike(got, api.Vertex{ID: id}) {
			t.Errorf("Get(%d) = %+v, %v", id, got, held)
		}
	}
	ranges(t, s, 0, math.MaxUint32, one, three, last)
	ranges(t, s, 1, 40, one, three, last)
	ranges(t, s, 1, 1, one)
	ranges(t, s, 1, 3, one, three)
	ranges(t, s, 2, 39, three)
	ranges(t, s, 3, 3, three)
	ranges(t, s, 40, math.MaxUint32, last)
	for _, none := range [][2]uint32{{0, 0}, {2, 2}, {4, 39}, {41, math.MaxUint32}, {3, 2}, {40, 1}, {math.MaxUint32, 0}} {
		ranges(t, s, none[0], none[1])
	}
	names(t, s, 1, 3, 40)
	names(t, s, 3, 1)
	names(t, s, 40, 1)
	names(t, s, 2, 3)
	for _, far := range []uint32{0, 18, 39, 41, math.MaxUint32} {
		names(t, s, far)
	}
}

// P11.1: who names whom goes with the halves of those that do; whether the far vertex is held is nothing to it.
func TestNaming(t *testing.T) {
	s := with(t, to(40, 5), to(2, 5, 6), to(9, 5), to(6, 2))
	names(t, s, 5, 2, 9, 40)
	names(t, s, 6, 2)
	want(t, "Put", s.Put(to(2, 6, 7)), api.OK)
	names(t, s, 5, 9, 40)
	names(t, s, 6, 2)
	names(t, s, 7, 2)
	want(t, "Put", s.Put(to(5, 9)), api.OK)
	want(t, "Put", s.Put(api.Vertex{ID: 40}), api.OK)
	names(t, s, 5, 9)
	names(t, s, 9, 5)
	want(t, "Put", s.Put(api.Vertex{ID: 9}), api.OK)
	names(t, s, 5)
	names(t, s, 9, 5)
}

// wrong is vertices that are not in form.
func wrong() []api.Vertex {
	props := func(list ...api.Prop) api.Vertex { return api.Vertex{ID: 1, There: true, Props: list} }
	halves := func(list ...api.Half) api.Vertex { return api.Vertex{ID: 1, There: true, Halves: list} }
	many := great(40)
	many.Halves = append(many.Halves, api.Half{Far: 39})
	return []api.Vertex{
		{}, {There: true}, {ID: 41}, {ID: 41, There: true}, {ID: math.MaxUint32, There: true},
		{ID: 1, Props: []api.Prop{{Val: num(1)}}}, {ID: 1, Halves: []api.Half{{Far: 2}}},
		props(api.Prop{}), props(api.Prop{Key: 4, Val: num(1)}), props(api.Prop{Val: api.Value{Kind: 3}}), props(api.Prop{Val: txt("A")}),
		props(api.Prop{Key: 1, Val: num(1)}, api.Prop{Key: 1, Val: num(1)}), props(api.Prop{Key: 1, Val: num(1)}, api.Prop{Key: 0, Val: num(1)}),
		halves(api.Half{}), to(1, 1), to(1, 41), to(1, 3, 2), to(1, 2, 2), halves(api.Half{Far: 2, Val: txt("123456789")}), many,
	}
}

// P11.1: what is not in form is refused, and nothing has changed; nor has it by what can't be done of a nil *Store.
func TestPutWrong(t *testing.T) {
	s, m := with(t, to(1, 2), to(2, 1), great(3)), modelOf(to(1, 2), to(2, 1), great(3))
	for _, v := range wrong() {
		want(t, "Put of a nil *Store", (*store.Store)(nil).Put(v), api.ErrForm)
		want(t, "Put", s.Put(v), api.ErrForm)
		holdModel(t, s, m)
	}
}

// P11.1, P11.2: a nil *Store.
func TestNil(t *testing.T) {
	var s *store.Store
	for _, v := range []api.Vertex{to(1), {ID: 1}, great(40)} {
		want(t, "Put", s.Put(v), api.ErrNone)
	}
	for _, n := range []uint32{0, 1, 40, 41, math.MaxUint32} {
		if got, held := s.Get(n); held || !alike(got, api.Vertex{ID: n}) {
			t.Errorf("Get(%d) = %+v, %v", n, got, held)
		}
		ranges(t, s, 0, n)
		names(t, s, n)
	}
	if p, e := s.Dump(); p != nil || e != api.ErrNone || s.Len() != 0 {
		t.Errorf("Dump = % x, %v; Len = %d", p, e, s.Len())
	}
}

// P11.1, P11.2: all vertices that there may be, each with as much as it may have.
func TestAll(t *testing.T) {
	var list []api.Vertex
	for id := uint32(1); id <= api.MaxVertex; id++ {
		list = append(list, great(id))
	}
	down := slices.Clone(list)
	slices.Reverse(down)
	for _, order := range [][]api.Vertex{list, down} {
		s := with(t, order...)
		ranges(t, s, 0, math.MaxUint32, list...)
		dumps(t, s, dumpOf(list))
		names(t, s, 1, numbers(list[1:])...)
		for _, v := range order {
			want(t, "Put", s.Put(api.Vertex{ID: v.ID}), api.OK)
		}
		dumps(t, s, code("00"))
	}
}

// P11.2: stores as bytes; what is no more held isn't there.
func TestDump(t *testing.T) {
	s := store.New()
	dumps(t, s, code("00"))
	want(t, "Put", s.Put(api.Vertex{ID: 40, There: true, Props: []api.Prop{{Key: 2, Val: txt("ab")}}, Halves: []api.Half{{Far: 1, Val: num(-1)}}}), api.OK)
	dumps(t, s, code("01 01 01 28 01 01 01 02 02 61 62 00 00 01 01 01 01 01 0f"))
	want(t, "Put", s.Put(to(3)), api.OK)
	dumps(t, s, code("01 02 01 03 01 00 00 01 28 01 01 01 02 02 61 62 00 00 01 01 01 01 01 0f"))
	want(t, "Put", s.Put(api.Vertex{ID: 40}), api.OK)
	dumps(t, s, code("01 01 01 03 01 00 00"))
}

// P11.2: bytes that no store dumps as.
func TestLoadWrong(t *testing.T) {
	for _, c := range [][2]string{
		{"no bytes", ""},
		{"a count cut off", "01"},
		{"a count of more bytes than there must be", "02 00 01 01 03 01 00 00"},
		{"a nought of more bytes than there must be", "01 00"},
		{"a count of nine bytes", "09 01 00 00 00 00 00 00 00 00"},
		{"one too few", "01 02 01 03 01 00 00"},
		{"none at all", "01 01"},
		{"many too few", "08 ff ff ff ff ff ff ff ff 01 03 01 00 00"},
		{"one too many", "01 01 01 03 01 00 00 01 04 01 00 00"},
		{"one where there is none", "00 01 03 01 00 00"},
		{"a byte behind none", "00 00"},
		{"a byte behind one", "01 01 01 03 01 00 00 00"},
		{"they fall", "01 02 01 03 01 00 00 01 02 01 00 00"},
		{"one twice", "01 02 01 03 01 00 00 01 03 01 00 00"},
		{"one twice, counted once", "01 01 01 03 01 00 00 01 03 01 00 00"},
		{"one twice, unlike", "01 02 01 03 01 00 00 01 03 01 00 01 01 05 00"},
		{"not There", "01 01 01 03 00 00 00"},
		{"not There, not counted", "00 01 03 00 00 00"},
		{"not There behind There", "01 02 01 03 01 00 00 01 04 00 00 00"},
		{"gone again", "00 01 03 01 00 00 01 03 00 00 00"},
		{"the number 0", "01 01 00 01 00 00"},
		{"the number 41", "01 01 01 29 01 00 00"},
		{"a number of more bytes than there must be", "01 01 02 00 03 01 00 00"},
		{"There is 02", "01 01 01 03 02 00 00"},
		{"a half to itself", "01 01 01 03 01 00 01 01 01 03 00"},
		{"a half to none", "01 01 01 03 01 00 01 01 00 00"},
		{"halves that fall", "01 01 01 03 01 00 01 02 01 05 00 01 04 00"},
		{"a property with None", "01 01 01 03 01 01 01 00 00 00"},
		{"a key above MaxKey", "01 01 01 03 01 01 01 04 01 10 00"},
		{"keys that are alike", "01 01 01 03 01 01 02 00 01 10 00 01 10 00"},
		{"a text that is none", "01 01 01 03 01 01 01 00 02 41 00 00 00"},
		{"a value of no kind", "01 01 01 03 01 01 01 00 03 00"},
	} {
		lacks(t, c[0], code(c[1]), api.ErrForm)
	}
	whole := dumpOf([]api.Vertex{to(1, 2), great(3), to(40)})
	for n := range whole {
		lacks(t, "cut", whole[:n], api.ErrForm)
	}
}

// P11.2: more than 400,000 bytes are too long, whatever they are; as many aren't.
func TestLoadLong(t *testing.T) {
	valid := code("01 01 01 03 01 00 00")
	many := append(code("03 01 38 80"), bytes.Repeat(code("01 03 01 00 00"), 80001)...)
	for _, p := range [][]byte{bytes.Repeat([]byte{0}, 400002), bytes.Repeat([]byte{0xff}, 400002), many, append(valid, make([]byte, 400000)...)} {
		for _, n := range []int{400001, 400002} {
			lacks(t, "too long", p[:n], api.ErrLong)
		}
		for _, n := range []int{399999, 400000} {
			lacks(t, "long", p[:n], api.ErrForm)
		}
	}
}

// The rule of memory: what is handed in is neither changed nor kept.
func TestHandedIn(t *testing.T) {
	props := []api.Prop{{Key: 0, Val: txt("r")}, {Key: 1, Val: num(5)}, {Key: 9}}
	halves := []api.Half{{Far: 1, Val: txt("u")}, {Far: 2}, {Far: 9}}
	v := api.Vertex{ID: 3, There: true, Props: props[:2], Halves: halves[:2]}
	should := dumpOf([]api.Vertex{v})
	s := with(t, v)
	if props[2].Key != 9 || halves[2].Far != 9 || !bytes.Equal(dumpOf([]api.Vertex{v}), should) {
		t.Errorf("Put has changed its argument: %+v, %+v", props, halves)
	}
	clear(props)
	clear(halves)
	dumps(t, s, should)
	room := append(slices.Clone(should), 0x99, 0x99)
	s, _ = store.Load(room[:len(should)])
	if !bytes.Equal(room, append(slices.Clone(should), 0x99, 0x99)) {
		t.Errorf("Load has changed its argument: % x", room)
	}
	clear(room)
	dumps(t, s, should)
}

// The rule of memory: what is answered is new, its spare room too.
func TestAnswered(t *testing.T) {
	list := []api.Vertex{great(3), great(5), to(7, 3, 5)}
	s := with(t, list...)
	should := dumpOf(list)
	got, _ := s.Get(3)
	wipe(got)
	all, part := s.Range(0, 40), s.Range(4, 7)
	wipe(all[1])
	if !alike(all[0], list[0]) || !alike(all[2], list[2]) || !alike(part[0], list[1]) {
		t.Errorf("vertices share memory: %+v, %+v", all, part)
	}
	clear(part[:cap(part)])
	name := s.Naming(3)
	clear(name[:cap(name)])
	p, _ := s.Dump()
	clear(p[:cap(p)])
	dumps(t, s, should)
	names(t, s, 3, 5, 7)
	// What was answered earlier stays when the store changes.
	got, _ = s.Get(3)
	for _, v := range list {
		want(t, "Put", s.Put(api.Vertex{ID: v.ID}), api.OK)
	}
	want(t, "Put", s.Put(to(3, 1)), api.OK)
	if !alike(got, list[0]) {
		t.Errorf("what was answered has changed: %+v", got)
	}
}

// wipe writes over the lists of v, and over their spare room.
func wipe(v api.Vertex) {
	clear(v.Props[:cap(v.Props)])
	clear(v.Halves[:cap(v.Halves)])
}

// The rule of memory, of texts: what is kept isn't what was handed in, nor what is handed out.
func TestTextMemory(t *testing.T) {
	long := []byte("abcdefgh")
	loan := txt(unsafe.String(&long[0], len(long)))
	s := with(t, api.Vertex{ID: 3, There: true, Props: []api.Prop{{Val: loan}}, Halves: []api.Half{{Far: 1, Val: loan}}})
	copy(long, "zzzzzzzz")
	v, _ := s.Get(3)
	w := s.Range(3, 3)[0]
	for _, pair := range [][2]api.Value{{v.Props[0].Val, w.Props[0].Val}, {v.Halves[0].Val, w.Halves[0].Val}} {
		if pair[0] != txt("abcdefgh") || pair[1] != pair[0] || unsafe.StringData(pair[0].S) == unsafe.StringData(pair[1].S) {
			t.Errorf("texts are %v", pair)
		}
	}
}

// The promises on objects: one store knows nothing of another one.
func TestTwo(t *testing.T) {
	r, s := with(t, to(1, 2), to(3, 2)), with(t, to(1, 2))
	want(t, "Put", r.Put(api.Vertex{ID: 1}), api.OK)
	want(t, "Put", s.Put(to(5, 2)), api.OK)
	names(t, r, 2, 3)
	names(t, s, 2, 1, 5)
	p, _ := s.Dump()
	one, _ := store.Load(p)
	two, _ := store.Load(p)
	want(t, "Put", one.Put(to(9)), api.OK)
	dumps(t, two, p)
	if reflect.DeepEqual(one.Range(0, 40), two.Range(0, 40)) {
		t.Error("they are alike")
	}
}
