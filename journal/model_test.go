package journal_test

import (
	"bytes"
	"math/rand"
	"testing"

	"gusset/api"
	"gusset/journal"
	"gusset/plate"
)

// area is what the document's words say of an area's pages.
type area struct {
	counts     bool
	generation int
	used       int // pages of its records
	payloads   [][]byte
}

// number is the number of three bytes.
func number(b []byte) int { return int(b[0])<<16 | int(b[1])<<8 | int(b[2]) }

// laid is the pages of a record.
func laid(life, generation, index int, kind byte, payload []byte) [][]byte {
	body := append([]byte{kind, byte(len(payload) >> 8), byte(len(payload))}, payload...)
	parts := needs(payload)
	var list [][]byte
	for i := range parts {
		piece := body[i*40 : min(i*40+40, len(body))]
		list = append(list, page(tag(life, generation, index, byte(i), byte(parts)), piece...))
	}
	return list
}

// begins tells whether the pages begin with those of the record whose tag, kind and length their first page tells, and
// what its payload is.
func begins(pages [][]byte) (payload []byte, parts int, ok bool) {
	first := pages[0]
	length := int(first[13])<<8 | int(first[14])
	parts = int(first[11])
	if length > api.MaxBytes || parts > len(pages) || parts != needs(make([]byte, length)) || first[12] == 1 && length > 0 {
		return nil, 0, false
	}
	var body []byte
	for _, b := range pages[:parts] {
		body = append(append(body, b[12:32]...), b[44:64]...)
	}
	payload = body[3 : 3+length]
	// What is wrong with any page shows here: it isn't what would have been laid.
	for i, b := range laid(number(first[1:]), number(first[4:]), number(first[7:]), first[12], payload) {
		if !bytes.Equal(b, pages[i]) {
			return nil, 0, false
		}
	}
	return payload, parts, true
}

// reading reads an area.
func reading(pages [][]byte) area {
	var a area
	life := 0
	for index := 0; a.used < len(pages); index++ {
		b := pages[a.used]
		payload, parts, ok := begins(pages[a.used:])
		if index == 0 {
			a.generation = number(b[4:])
		}
		kind := b[12]
		if !ok || number(b[7:]) != index || number(b[4:]) != a.generation || number(b[1:]) < life || kind > 2 || (kind == 2) != a.counts {
			return a
		}
		life = number(b[1:])
		a.used += parts
		if kind == 1 {
			a.counts = true
		} else {
			a.payloads = append(a.payloads, payload)
		}
	}
	return a
}

// newest is one more than the greatest life of any half.
func newest(pages [][]byte) int {
	life := 0
	for _, b := range pages {
		if b[0] == 0xc3 {
			life = max(life, number(b[1:]))
		}
		if b[32] == 0x3c {
			life = max(life, number(b[33:]))
		}
	}
	return life + 1
}

// spoil makes something of a record's pages wrong, by chance.
func spoil(random *rand.Rand, pages [][]byte) {
	b := pages[random.Intn(len(pages))]
	at := 1 + random.Intn(11)
	change := []byte{1, 0xff, 2, 0x80}[random.Intn(4)]
	switch random.Intn(6) {
	case 0: // any byte
		b[random.Intn(64)] += change
	case 1: // a tag's byte, in both halves of one page
		b[at] += change
		b[32+at] += change
	case 2: // a tag's byte, on all pages
		for _, b := range pages {
			b[at] += change
			b[32+at] += change
		}
	case 3: // what the body begins with
		pages[0][12+random.Intn(3)] += change
	case 4: // what is behind the body
		pages[len(pages)-1][63] += change
	default: // a page that isn't there
		clear(b)
	}
}

// drawn is pages with records of one generation, a few things about them wrong.
func drawn(random *rand.Rand, most, generation int) [][]byte {
	var list [][]byte
	life := 1 + random.Intn(3)
	sealed := false
	for index := 0; len(list) < most; index++ {
		kind := byte(0)
		switch {
		case sealed:
			kind = 2
		case random.Intn(3) == 0:
			kind, sealed = 1, true
		}
		if random.Intn(25) == 0 {
			kind = byte(random.Intn(4))
		}
		var payload []byte
		if kind != 1 || random.Intn(10) == 0 {
			payload = run(byte(random.Intn(256)), []int{0, 5, 37, 38, 70, 77, 78, 100}[random.Intn(8)])
		}
		if random.Intn(4) == 0 {
			life = max(0, life+random.Intn(4)-1)
		}
		pages := laid(life, generation, index, kind, payload)
		if random.Intn(20) == 0 {
			spoil(random, pages)
		}
		list = append(list, pages...)
	}
	return list
}

// drawnPlate is the pages of a plate, by chance.
func drawnPlate(random *rand.Rand) [][]byte {
	size := 8 + random.Intn(20)
	half := size / 2
	generation := random.Intn(3)
	// Those of the first area may go on into the second one.
	list := drawn(random, half+random.Intn(half), generation)
	if random.Intn(4) > 0 {
		list = append(list[:half], drawn(random, half, generation+random.Intn(3)-1+random.Intn(2)*255)...)
	}
	for len(list) < size {
		list = append(list, make([]byte, api.Page))
	}
	return list[:size]
}

// P7.1, P7.4: Open reads whatever stands on a plate as the document says.
func TestReading(t *testing.T) {
	random := rand.New(rand.NewSource(7))
	began := 0
	for range 60000 {
		pages := drawnPlate(random)
		p := fresh(t, len(pages))
		for i, b := range pages {
			want(t, "Write", p.Write(i, b), api.OK)
		}
		half := len(pages) / 2
		here, at := reading(pages[:half]), 0
		if other := reading(pages[half : 2*half]); !here.counts || other.counts && other.generation > here.generation {
			here, at = other, half
		}
		life := newest(pages)
		if life == 1<<24 {
			if j, list, e := journal.Open(p); j != nil || len(list) != 0 || e != api.ErrFull {
				t.Fatalf("Open = %v, % x, %v", j, list, e)
			}
			continue
		}
		ops := 0
		if !here.counts {
			here, at = area{generation: 1, used: 1}, 0
			pages[0] = laid(life, 1, 0, 1, nil)[0]
			ops = 2
			began++
		}
		before := p.Ops()
		j := opened(t, p, here.payloads...)
		tells(t, j, len(here.payloads), half-here.used, here.generation)
		if p.Ops()-before != ops {
			t.Fatalf("%d operations, not %d", p.Ops()-before, ops)
		}
		if here.used < half {
			want(t, "Append", j.Append([]byte{8}), api.OK)
			pages[at+here.used] = laid(life, here.generation, len(here.payloads)+1, 2, []byte{8})[0]
		}
		for i, b := range pages {
			if got, _ := p.Read(i); !bytes.Equal(got, b) {
				t.Fatalf("page %d is\n% x, not\n% x", i, got, b)
			}
		}
	}
	if began == 0 || began > 50000 {
		t.Fatalf("of 60000 plates %d had no journal", began)
	}
}

// P7.1: what stands behind the seal, and isn't a record as it is cut, isn't read.
func TestNoRecord(t *testing.T) {
	good := func() [][]byte { return laid(4, 1, 1, 2, run(1, 50)) }
	changed := func(at int, b byte, which ...int) [][]byte {
		list := good()
		for _, i := range which {
			list[i][at], list[i][at+32] = b, b
		}
		return list
	}
	more := [][]byte{page(tag(4, 1, 1, 0, 2), 2, 0, 1, 9), page(tag(4, 1, 1, 1, 2))}
	for i, c := range []struct {
		pages    [][]byte
		payloads [][]byte
	}{
		{good(), [][]byte{run(1, 50)}},
		{good()[:1], nil}, {good()[1:], nil}, {[][]byte{good()[1], good()[0]}, nil},
		{changed(3, 5, 0, 1), [][]byte{run(1, 50)}}, {changed(3, 3, 0, 1), [][]byte{run(1, 50)}}, {changed(3, 2, 0, 1), nil},
		{changed(3, 5, 0), nil}, {changed(3, 5, 1), nil}, {changed(6, 2, 0, 1), nil}, {changed(6, 0, 0, 1), nil}, {changed(6, 2, 1), nil},
		{changed(9, 2, 0, 1), nil}, {changed(9, 0, 0, 1), nil}, {changed(9, 2, 1), nil}, {changed(10, 2, 1), nil}, {changed(10, 1, 0), nil},
		{changed(11, 3, 0, 1), nil}, {changed(11, 1, 0, 1), nil}, {changed(11, 0, 0, 1), nil}, {changed(11, 255, 0, 1), nil}, {changed(11, 3, 1), nil},
		{more, nil}, {laid(4, 1, 1, 2, []byte{9}), [][]byte{{9}}}, {laid(4, 1, 1, 0, nil), nil}, {laid(4, 1, 1, 1, nil), nil}, {laid(4, 1, 1, 3, nil), nil},
		{laid(4, 1, 1, 2, run(1, api.MaxBytes)), [][]byte{run(1, api.MaxBytes)}}, {laid(4, 1, 1, 2, run(1, api.MaxBytes+1)), nil},
		{laid(4, 1, 1, 2, run(1, 255*40-3)), nil},
		{append(laid(4, 1, 1, 2, nil), laid(4, 1, 2, 2, []byte{5})...), [][]byte{nil, {5}}}, {append(laid(4, 1, 1, 2, nil), laid(3, 1, 2, 2, []byte{5})...), [][]byte{nil}},
	} {
		p := fresh(t, 600)
		for k, b := range append(laid(3, 1, 0, 1, nil), c.pages...) {
			want(t, "Write", p.Write(k, b), api.OK)
		}
		_, list, e := journal.Open(p)
		if e != api.OK || !alike(list, c.payloads) {
			t.Errorf("case %d: %.60x, %v, not %.60x", i, list, e, c.payloads)
		}
	}
}

// P7.1: a seal that has a payload is none.
func TestNoSeal(t *testing.T) {
	for _, c := range []struct {
		payload []byte
		age     int
	}{{nil, 7}, {[]byte{1}, 1}, {[]byte{0}, 1}} {
		p := fresh(t, 8)
		want(t, "Write", p.Write(4, laid(3, 7, 0, 1, c.payload)[0]), api.OK)
		tells(t, opened(t, p), 0, 3, c.age)
	}
}

// action is what is asked of a journal: a Renew with the list, or an Append of its one payload.
type action struct {
	renew bool
	list  [][]byte
}

// story is what is told of a journal through cuts: what was acknowledged, and what may be there instead, if the power
// went in the midst of something.
type story struct {
	t     *testing.T
	p     *plate.Plate
	j     *journal.Journal
	acked [][]byte
	maybe [][]byte
	doubt bool
}

// room is how many pages are left by what was acknowledged and the seal.
func (s *story) room() int { return s.left(s.acked) }

func (s *story) left(list [][]byte) int {
	pages := s.p.Len()/2 - 1
	for _, b := range list {
		pages -= needs(b)
	}
	return pages
}

// open opens the journal; false: the power went.
func (s *story) open() bool {
	s.t.Helper()
	j, list, e := journal.Open(s.p)
	if e == api.ErrDown && !s.p.On() {
		return false
	}
	if e != api.OK {
		s.t.Fatalf("Open: %v", e)
	}
	switch {
	case alike(list, s.acked):
	case s.doubt && alike(list, s.maybe):
		s.acked = s.maybe
	default:
		s.t.Fatalf("Open = % x, not % x (or, if %v, % x)", list, s.acked, s.doubt, s.maybe)
	}
	s.j, s.doubt = j, false
	if j.Len() != len(list) || j.Room() != s.room() {
		s.t.Fatalf("Len %d, Room %d, not %d, %d", j.Len(), j.Room(), len(list), s.room())
	}
	return true
}

// do does an action; false: the power went.
func (s *story) do(a action) bool {
	s.t.Helper()
	next := append(s.acked[:len(s.acked):len(s.acked)], a.list...)
	e := api.OK
	if a.renew {
		next = a.list
		e = s.j.Renew(a.list)
	} else {
		e = s.j.Append(a.list[0])
	}
	switch {
	case e == api.OK && s.left(next) >= 0:
		s.acked = next
	case e == api.ErrFull && s.left(next) < 0:
	case e == api.ErrDown && !s.p.On():
		s.maybe, s.doubt = next, true
		return false
	default:
		s.t.Fatalf("%v: %v", a, e)
	}
	if s.j.Len() != len(s.acked) || s.j.Room() != s.room() {
		s.t.Fatalf("Len %d, Room %d, not %d, %d", s.j.Len(), s.j.Room(), len(s.acked), s.room())
	}
	return true
}

// cutAt says where the power goes, counted from the last Restart on, and what is left then.
type cutAt struct {
	op   int
	keep []byte
}

// told tells a story: the actions, one behind the other, each once, through the cuts. It answers how many of the cuts came.
func told(t *testing.T, pages int, actions []action, cuts []cutAt) int {
	t.Helper()
	s := &story{t: t, p: fresh(t, pages)}
	came := 0
	arm := func() {
		if came < len(cuts) {
			want(t, "Arm", s.p.Arm(cuts[came].op), api.OK)
		}
	}
	again := func() {
		for {
			want(t, "Restart", s.p.Restart(plate.Fate{Keep: cuts[came].keep}), api.OK)
			came++
			arm()
			if s.open() {
				return
			}
		}
	}
	arm()
	if !s.open() {
		again()
	}
	for _, a := range actions {
		if !s.do(a) {
			again()
		}
	}
	want(t, "Arm", s.p.Arm(0), api.OK)
	s.open()
	return came
}

// script is actions whose records have one to three pages, such that areas are laid over again and again.
func script() []action {
	var list []action
	for i, n := range []int{1, 40, -2, 3, 80, -1, 30, -3, 50, 2, -1, -2, 1} {
		b := byte(16 * i)
		if n >= 0 {
			list = append(list, action{false, [][]byte{run(b, n)}})
			continue
		}
		a := action{renew: true}
		for k := range -n - 1 {
			a.list = append(a.list, run(b+byte(k)+1, 35+4*k))
		}
		list = append(list, a)
	}
	return list
}

// keeps is each way in which n writes may be kept.
func keeps(n int) [][]byte {
	if n == 0 {
		return [][]byte{nil}
	}
	var list [][]byte
	for _, ahead := range keeps(n - 1) {
		for how := range byte(4) {
			list = append(list, append(bytes.Clone(ahead), how))
		}
	}
	return list
}

// P7.5: one cut, at every operation, with whatever is kept.
func TestCut(t *testing.T) {
	for op := 1; ; op++ {
		for _, keep := range keeps(4) {
			if told(t, 12, script(), []cutAt{{op, keep}}) == 0 {
				return
			}
		}
	}
}

// P7.5: two cuts, at every two operations, with much of what may be kept; the second one may come while the journal is
// opened.
func TestTwoCuts(t *testing.T) {
	some := keeps(3)
	few := [][]byte{nil, {1, 1, 1, 1}, {2, 2, 2, 2}, {3, 3, 3, 3}, {1}, {0, 1}, {0, 0, 1}, {1, 0, 1}, {2, 1}}
	for first := 1; ; first++ {
		for i := 0; i < len(some); i += 3 {
			for second := 1; ; second++ {
				came := 0
				for _, keep := range few {
					came = told(t, 11, script(), []cutAt{{first, some[i]}, {second, keep}})
				}
				if came == 0 {
					return
				}
				if came == 1 {
					break
				}
			}
		}
	}
}

// P7.5: a first Open that is cut off, and again, with whatever is kept.
func TestCutOpen(t *testing.T) {
	for _, first := range keeps(1) {
		for _, second := range keeps(1) {
			for _, third := range keeps(1) {
				for ops := range 8 {
					cuts := []cutAt{{1 + ops&1, first}, {1 + ops>>1&1, second}, {1 + ops>>2&1, third}}
					told(t, 8, script(), cuts)
				}
			}
		}
	}
}

// P7.5: many cuts, by chance, each soon behind the other.
func TestManyCuts(t *testing.T) {
	for seed := range int64(1500) {
		random := rand.New(rand.NewSource(seed))
		var actions []action
		for i := range 60 {
			a := action{renew: random.Intn(3) == 0}
			many := 1
			if a.renew {
				many = random.Intn(4)
			}
			for k := range many {
				a.list = append(a.list, run(byte(4*i+k), random.Intn(90)))
			}
			actions = append(actions, a)
		}
		var cuts []cutAt
		for range 60 {
			keep := make([]byte, random.Intn(12))
			random.Read(keep)
			if random.Intn(3) == 0 {
				keep = bytes.Repeat([]byte{byte(random.Intn(4))}, 12)
			}
			cuts = append(cuts, cutAt{1 + random.Intn(14), keep})
		}
		told(t, 8+random.Intn(16), actions, cuts)
	}
}

// P7.5: records of the greatest length, cut at each of their pages.
func TestCutLong(t *testing.T) {
	actions := []action{
		{false, [][]byte{run(1, api.MaxBytes)}}, {true, [][]byte{run(2, 200), run(3, api.MaxBytes)}}, {false, [][]byte{run(4, 4000)}},
	}
	some := [][]byte{nil, bytes.Repeat([]byte{1}, 120), bytes.Repeat([]byte{2}, 120), bytes.Repeat([]byte{0, 1, 1}, 40)}
	for op := 1; ; op++ {
		for i, keep := range some {
			came := told(t, 430, actions, []cutAt{{op, keep}, {1 + op%7*30, some[len(some)-1-i]}})
			if came == 0 {
				return
			}
		}
	}
}
