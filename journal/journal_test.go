package journal_test

import (
	"bytes"
	"slices"
	"testing"

	"gusset/api"
	"gusset/journal"
	"gusset/plate"
)

// want holds an error against what it should be.
func want(t *testing.T, what string, got, should api.Errno) {
	t.Helper()
	if got != should {
		t.Fatalf("%s: %v, not %v", what, got, should)
	}
}

// fresh is a new plate.
func fresh(t *testing.T, pages int) *plate.Plate {
	t.Helper()
	p, e := plate.New(pages)
	want(t, "plate.New", e, api.OK)
	return p
}

// opened is the journal on p, whose payloads should be those of the list.
func opened(t *testing.T, p *plate.Plate, should ...[]byte) *journal.Journal {
	t.Helper()
	j, list, e := journal.Open(p)
	if e != api.OK || j == nil || !alike(list, should) {
		t.Fatalf("Open = %v, % x, %v, not % x", j, list, e, should)
	}
	if j.Len() != len(should) {
		t.Fatalf("Len = %d, not %d", j.Len(), len(should))
	}
	return j
}

// alike tells whether two lists have the same payloads; nil and empty ones are the same.
func alike(a, b [][]byte) bool { return slices.EqualFunc(a, b, bytes.Equal) }

// run is n bytes, the first one b, each one greater than the one ahead.
func run(b byte, n int) []byte {
	list := make([]byte, n)
	for i := range list {
		list[i] = b + byte(i)
	}
	return list
}

// needs is how many pages a record has whose payload is b.
func needs(b []byte) int {
	pages := 1
	for n := 3 + len(b); n > 40; n -= 40 {
		pages++
	}
	return pages
}

// tells holds Len, Room and Age against what they should be.
func tells(t *testing.T, j *journal.Journal, length, room, age int) {
	t.Helper()
	if j.Len() != length || j.Room() != room || j.Age() != age {
		t.Fatalf("Len %d, Room %d, Age %d, not %d, %d, %d", j.Len(), j.Room(), j.Age(), length, room, age)
	}
}

// cut makes the power go at the next flush, and puts it on again.
func cut(t *testing.T, p *plate.Plate, keep ...byte) {
	t.Helper()
	want(t, "Arm", p.Arm(1), api.OK)
	want(t, "Flush", p.Flush(), api.ErrDown)
	want(t, "Restart", p.Restart(plate.Fate{Keep: keep}), api.OK)
}

// P7.1 to P7.4: the document's example.
func TestExample(t *testing.T) {
	p := fresh(t, 16)
	j := opened(t, p)
	tells(t, j, 0, 7, 1)
	want(t, "Append", j.Append([]byte{0x61}), api.OK)
	tells(t, j, 1, 6, 1)
	want(t, "Append", j.Append(run(5, 100)), api.OK)
	tells(t, j, 2, 3, 1)
	want(t, "Append", j.Append(run(5, 120)), api.ErrFull)
	tells(t, j, 2, 3, 1)
	want(t, "Renew", j.Renew([][]byte{{0x61}}), api.OK)
	tells(t, j, 1, 6, 2)
	tells(t, opened(t, p, []byte{0x61}), 1, 6, 2)
}

// onPlate holds the pages of p that are not all 00 against what they should be.
func onPlate(t *testing.T, p *plate.Plate, should map[int][]byte) {
	t.Helper()
	for i := range p.Len() {
		got, e := p.Read(i)
		want(t, "Read", e, api.OK)
		wanted := should[i]
		if wanted == nil {
			wanted = make([]byte, api.Page)
		}
		if !bytes.Equal(got, wanted) {
			t.Fatalf("page %d is\n% x, not\n% x", i, got, wanted)
		}
	}
}

// page is a page's bytes: the tag's bytes and the part's, these with 00s behind them.
func page(tag []byte, part ...byte) []byte {
	part = append(bytes.Clone(part), make([]byte, 40-len(part))...)
	return slices.Concat([]byte{0xc3}, tag, part[:20], []byte{0x3c}, tag, part[20:])
}

// tag is a half's bytes 1 to 11.
func tag(life, generation, index int, part, parts byte) []byte {
	var list []byte
	for _, n := range []int{life, generation, index} {
		list = append(list, byte(n>>16), byte(n>>8), byte(n))
	}
	return append(list, part, parts)
}

// P7.1 to P7.3: what stands on the plate, byte by byte.
func TestLayout(t *testing.T) {
	p := fresh(t, 17)
	j := opened(t, p)
	pages := map[int][]byte{0: page(tag(1, 1, 0, 0, 1), 1, 0, 0)}
	onPlate(t, p, pages)

	b := run(0x20, 78)
	want(t, "Append", j.Append(b), api.OK)
	pages[1] = page(tag(1, 1, 1, 0, 3), append([]byte{2, 0, 78}, b[:37]...)...)
	pages[2] = page(tag(1, 1, 1, 1, 3), b[37:77]...)
	pages[3] = page(tag(1, 1, 1, 2, 3), b[77])
	onPlate(t, p, pages)

	j = opened(t, p, b)
	onPlate(t, p, pages)
	want(t, "Append", j.Append(nil), api.OK)
	pages[4] = page(tag(2, 1, 2, 0, 1), 2, 0, 0)
	onPlate(t, p, pages)

	j = opened(t, p, b, nil)
	want(t, "Renew", j.Renew([][]byte{run(9, 38), {7}}), api.OK)
	pages[8] = page(tag(3, 2, 0, 0, 2), append([]byte{0, 0, 38}, run(9, 37)...)...)
	pages[9] = page(tag(3, 2, 0, 1, 2), 9+37)
	pages[10] = page(tag(3, 2, 1, 0, 1), 0, 0, 1, 7)
	pages[11] = page(tag(3, 2, 2, 0, 1), 1, 0, 0)
	onPlate(t, p, pages)

	want(t, "Append", j.Append([]byte{0xee}), api.OK)
	pages[12] = page(tag(3, 2, 3, 0, 1), 2, 0, 1, 0xee)
	want(t, "Renew", j.Renew(nil), api.OK)
	pages[0] = page(tag(3, 3, 0, 0, 1), 1, 0, 0)
	onPlate(t, p, pages)
	tells(t, opened(t, p), 0, 7, 3)
}

// P7.2: a payload of each length is there again, and has as many pages as its body has parts.
func TestLengths(t *testing.T) {
	p := fresh(t, 2*120)
	j := opened(t, p)
	for _, n := range []int{0, 1, 36, 37, 38, 76, 77, 78, 116, 117, 118, 255, 256, 257, 4036, 4037, 4038, 4076, 4077, 4078, 4095, api.MaxBytes} {
		b := run(byte(n), n)
		want(t, "Append", j.Append(b), api.OK)
		tells(t, j, 1, 119-needs(b), j.Age())
		j = opened(t, p, b)
		want(t, "Renew", j.Renew([][]byte{b}), api.OK)
		tells(t, j, 1, 119-needs(b), j.Age())
		j = opened(t, p, b)
		want(t, "Renew", j.Renew(nil), api.OK)
	}
	if needs(run(0, api.MaxBytes)) != 103 {
		t.Fatal("the longest record should have 103 pages")
	}
}

// P7.1: a plate that is too small, none, one without power.
func TestOpenWrong(t *testing.T) {
	refused := func(p *plate.Plate, should api.Errno) {
		t.Helper()
		if j, list, e := journal.Open(p); j != nil || len(list) != 0 || e != should {
			t.Fatalf("Open = %v, % x, %v, not %v", j, list, e, should)
		}
	}
	refused(nil, api.ErrNone)
	for n := 1; n < 8; n++ {
		p := fresh(t, n)
		refused(p, api.ErrArg)
		if p.Ops() != 0 {
			t.Fatal("something was written on a plate that is too small")
		}
		want(t, "Arm", p.Arm(1), api.OK)
		want(t, "Flush", p.Flush(), api.ErrDown)
		refused(p, api.ErrArg)
	}
	p := fresh(t, 8)
	want(t, "Arm", p.Arm(1), api.OK)
	want(t, "Flush", p.Flush(), api.ErrDown)
	refused(p, api.ErrDown)
	want(t, "Restart", p.Restart(plate.Fate{}), api.OK)
	for n := 1; n <= 2; n++ {
		want(t, "Arm", p.Arm(n), api.OK)
		refused(p, api.ErrDown)
		refused(p, api.ErrDown)
		want(t, "Restart", p.Restart(plate.Fate{}), api.OK)
	}
	tells(t, opened(t, p), 0, 3, 1)
	tells(t, opened(t, fresh(t, 9)), 0, 3, 1)
	tells(t, opened(t, fresh(t, api.MaxPages)), 0, api.MaxPages/2-1, 1)
}

// P7.1: how many operations Open has: two, where no area counts, else none.
func TestOpenOps(t *testing.T) {
	p := fresh(t, 8)
	opened(t, p)
	if p.Ops() != 2 {
		t.Fatalf("a first Open has %d operations", p.Ops())
	}
	for range 3 {
		tells(t, opened(t, p), 0, 3, 1)
	}
	if p.Ops() != 2 {
		t.Fatalf("a later Open has %d operations", p.Ops()-2)
	}
}

// P7.1: the life is one more than that of any half of the plate, be it of a page that is whole or not, in an area or behind both.
func TestLife(t *testing.T) {
	half := func(mark byte, life int) []byte { return append([]byte{mark}, tag(life, 0, 0, 0, 0)...) }
	last := func(b []byte) []byte { return append(make([]byte, 32), b...) }
	for _, c := range []struct {
		page []byte
		life int
	}{
		{nil, 2}, {half(0xc3, 1), 2}, {half(0xc3, 2), 3}, {half(0xc3, 0x123456), 0x123457}, {last(half(0x3c, 0x010000)), 0x010001},
		{half(0x3c, 77), 2}, {last(half(0xc3, 77)), 2}, {half(0, 77), 2}, {half(0xc3, 0xfffffe), 0xffffff},
		{append(page(tag(5, 0, 0, 0, 0))[:32], half(0x3c, 9)...), 10}, {append(page(tag(9, 0, 0, 0, 0))[:32], half(0x3c, 5)...), 10},
	} {
		for _, at := range []int{3, 7, 8} {
			p := fresh(t, 9)
			opened(t, p)
			want(t, "Write", p.Write(at, c.page), api.OK)
			want(t, "Append", opened(t, p).Append(nil), api.OK)
			if got, _ := p.Read(1); !bytes.Equal(got, page(tag(c.life, 1, 1, 0, 1), 2, 0, 0)) {
				t.Fatalf("with % x on page %d:\n% x", c.page, at, got)
			}
		}
	}
}

// P7.1: a greatest life of 2^24 - 1, on any half, leaves none.
func TestLifeFull(t *testing.T) {
	first := page(tag(0xffffff, 0, 0, 0, 0))[:32]
	last := append(make([]byte, 32), page(tag(0xffffff, 0, 0, 0, 0))[32:]...)
	for _, b := range [][]byte{first, last} {
		for _, at := range []int{0, 5, 8} {
			p := fresh(t, 9)
			want(t, "Write", p.Write(at, b), api.OK)
			if j, list, e := journal.Open(p); j != nil || len(list) != 0 || e != api.ErrFull || p.Ops() != 1 {
				t.Fatalf("Open = %v, % x, %v", j, list, e)
			}
			want(t, "Write", p.Write(at, nil), api.OK)
			opened(t, p)
		}
	}
}

// P7.2, P7.3: payloads that are too long; nothing changes.
func TestLong(t *testing.T) {
	p := fresh(t, 1000)
	j := opened(t, p)
	for _, n := range []int{api.MaxBytes + 1, 1 << 16, 1<<16 + 1} {
		b := make([]byte, n)
		want(t, "Append", j.Append(b), api.ErrLong)
		want(t, "Renew", j.Renew([][]byte{b}), api.ErrLong)
		want(t, "Renew", j.Renew([][]byte{{1}, nil, b, {2}}), api.ErrLong)
		want(t, "Renew", j.Renew(slices.Concat(slices.Repeat([][]byte{{1}}, 600), [][]byte{b})), api.ErrLong)
	}
	tells(t, j, 0, 499, 1)
	if p.Ops() != 2 {
		t.Fatalf("%d operations", p.Ops())
	}
	want(t, "Append", j.Append(make([]byte, api.MaxBytes)), api.OK)
}

// P7.2, P7.3: what doesn't fit, by one page; nothing changes.
func TestFull(t *testing.T) {
	p := fresh(t, 20)
	j := opened(t, p)
	full := func(ops int, list ...[]byte) {
		t.Helper()
		if p.Ops() != ops {
			t.Fatalf("%d operations, not %d", p.Ops(), ops)
		}
		opened(t, p, list...)
	}
	want(t, "Append", j.Append(run(1, 9*40-3+1)), api.ErrFull)
	want(t, "Append", j.Append(run(1, api.MaxBytes)), api.ErrFull)
	tells(t, j, 0, 9, 1)
	full(2)
	want(t, "Append", j.Append(run(1, 9*40-3)), api.OK)
	tells(t, j, 1, 0, 1)
	want(t, "Append", j.Append(nil), api.ErrFull)
	full(12, run(1, 9*40-3))

	ten := slices.Repeat([][]byte{{3}}, 10)
	for _, list := range [][][]byte{ten, {run(1, 9*40-3+1)}, {run(1, 8*40-3), {1}, {2}}, {run(1, api.MaxBytes)}, slices.Repeat([][]byte{nil}, 5000)} {
		want(t, "Renew", j.Renew(list), api.ErrFull)
		tells(t, j, 1, 0, 1)
	}
	full(12, run(1, 9*40-3))
	want(t, "Renew", j.Renew(ten[:9]), api.OK)
	tells(t, j, 9, 0, 2)
	want(t, "Append", j.Append(nil), api.ErrFull)
	full(12+12, ten[:9]...)
	want(t, "Renew", j.Renew([][]byte{run(1, 8*40-3), {1}}), api.OK)
	tells(t, j, 2, 0, 3)
	want(t, "Renew", j.Renew([][]byte{run(1, 9*40-3)}), api.OK)
	tells(t, j, 1, 0, 4)
	opened(t, p, run(1, 9*40-3))
}

// P7.3: generations end at 2^24 - 1.
func TestGenerationFull(t *testing.T) {
	p := fresh(t, 8)
	want(t, "Write", p.Write(4, page(tag(1, 0xfffffe, 0, 0, 1), 1)), api.OK)
	j := opened(t, p)
	tells(t, j, 0, 3, 0xfffffe)
	want(t, "Renew", j.Renew([][]byte{{1}}), api.OK)
	tells(t, j, 1, 2, 0xffffff)
	ops := p.Ops()
	want(t, "Renew", j.Renew(nil), api.ErrFull)
	want(t, "Renew", j.Renew([][]byte{{1}}), api.ErrFull)
	tells(t, j, 1, 2, 0xffffff)
	if p.Ops() != ops {
		t.Fatal("something was written")
	}
	want(t, "Append", j.Append([]byte{2}), api.OK)
	opened(t, p, []byte{1}, []byte{2})
}

// flush stands among the pages that are written for what makes them last.
const flush = -1

// written is the pages 0 and 1, and those of the steps, rising.
func written(steps []int) []int {
	list := []int{0, 1}
	for _, s := range steps {
		if s != flush {
			list = append(list, s)
		}
	}
	return list
}

// lasting is the steps up to the last flush.
func lasting(steps []int) []int {
	for len(steps) > 0 && steps[len(steps)-1] != flush {
		steps = steps[:len(steps)-1]
	}
	return steps
}

// P7.2, P7.3: in what order pages are written and flushed, told by what a cut at each operation leaves.
func TestSteps(t *testing.T) {
	appends := func(b []byte) func(*journal.Journal) api.Errno {
		return func(j *journal.Journal) api.Errno { return j.Append(b) }
	}
	renews := func(list ...[]byte) func(*journal.Journal) api.Errno {
		return func(j *journal.Journal) api.Errno { return j.Renew(list) }
	}
	for _, c := range []struct {
		do    func(*journal.Journal) api.Errno
		steps []int
	}{
		{appends(run(1, 100)), []int{2, 3, 4, flush}},
		{appends(nil), []int{2, flush}},
		{renews(run(1, 50), []byte{2}, run(3, 90)), []int{10, 11, 12, 13, 14, 15, flush, 16, flush}},
		{renews(), []int{flush, 10, flush}},
	} {
		for n := range len(c.steps) + 1 {
			for _, keep := range []byte{0, 1} {
				p := fresh(t, 20)
				j := opened(t, p)
				want(t, "Append", j.Append([]byte{9}), api.OK)
				ops := p.Ops()
				want(t, "Arm", p.Arm(n), api.OK)
				if n == 0 {
					want(t, "no cut", c.do(j), api.OK)
					if p.Ops()-ops != len(c.steps) {
						t.Fatalf("%d operations, not %d", p.Ops()-ops, len(c.steps))
					}
					continue
				}
				want(t, "a cut", c.do(j), api.ErrDown)
				want(t, "Restart", p.Restart(plate.Fate{Keep: bytes.Repeat([]byte{keep}, n)}), api.OK)
				should := written(c.steps[:n])
				if keep == 0 {
					should = written(lasting(c.steps[:n-1]))
				}
				if got := p.Written(); !slices.Equal(got, should) {
					t.Fatalf("%v, cut at %d, with %d: %v, not %v", c.steps, n, keep, got, should)
				}
			}
		}
	}
}

// P7.2, P7.3: when a call has answered ErrDown the journal has come to its end; lesser errors go ahead.
func TestTerm(t *testing.T) {
	for _, fail := range []func(j *journal.Journal) api.Errno{
		func(j *journal.Journal) api.Errno { return j.Append([]byte{1}) },
		func(j *journal.Journal) api.Errno { return j.Renew(nil) },
		func(j *journal.Journal) api.Errno { return j.Renew([][]byte{{1}, {2}}) },
	} {
		p := fresh(t, 8)
		j := opened(t, p)
		want(t, "Arm", p.Arm(1), api.OK)
		want(t, "the first", fail(j), api.ErrDown)
		for range 2 {
			ops := p.Ops()
			want(t, "Append", j.Append([]byte{1}), api.ErrTerm)
			want(t, "Append", j.Append(nil), api.ErrTerm)
			want(t, "Renew", j.Renew(nil), api.ErrTerm)
			want(t, "Renew", j.Renew([][]byte{{1}}), api.ErrTerm)
			want(t, "Append", j.Append(run(1, 3*40-3+1)), api.ErrFull)
			want(t, "Renew", j.Renew(slices.Repeat([][]byte{nil}, 4)), api.ErrFull)
			want(t, "Append", j.Append(make([]byte, api.MaxBytes+1)), api.ErrLong)
			want(t, "Renew", j.Renew([][]byte{make([]byte, api.MaxBytes+1)}), api.ErrLong)
			if p.Ops() != ops {
				t.Fatal("something was written")
			}
			if !p.On() {
				want(t, "Restart", p.Restart(plate.Fate{}), api.OK)
			}
		}
		opened(t, p)
	}
}

// P7.2, P7.3: a journal whose plate is off finds it out by ErrDown, once; one that is full ahead of that.
func TestOff(t *testing.T) {
	for _, renew := range []bool{false, true} {
		p := fresh(t, 8)
		j := opened(t, p)
		want(t, "Arm", p.Arm(1), api.OK)
		want(t, "Flush", p.Flush(), api.ErrDown)
		want(t, "Append", j.Append(run(1, 200)), api.ErrFull)
		want(t, "Renew", j.Renew([][]byte{run(1, 200)}), api.ErrFull)
		do := func() api.Errno { return j.Append([]byte{1}) }
		if renew {
			do = func() api.Errno { return j.Renew(nil) }
		}
		want(t, "the first", do(), api.ErrDown)
		want(t, "the second", do(), api.ErrTerm)
	}
}

// P7.2: a cut in which the journal had no part doesn't end it.
func TestCutApart(t *testing.T) {
	p := fresh(t, 12)
	j := opened(t, p)
	want(t, "Append", j.Append([]byte{1}), api.OK)
	cut(t, p)
	want(t, "Append", j.Append([]byte{2}), api.OK)
	want(t, "Renew", j.Renew([][]byte{{3}}), api.OK)
	cut(t, p)
	want(t, "Append", j.Append([]byte{4}), api.OK)
	opened(t, p, []byte{3}, []byte{4})
}

// P7.4: of a nil journal; of several errors the least number.
func TestNilJournal(t *testing.T) {
	var j *journal.Journal
	long := make([]byte, api.MaxBytes+1)
	for _, b := range [][]byte{nil, {}, {1}, long[:api.MaxBytes]} {
		want(t, "Append", j.Append(b), api.ErrNone)
		want(t, "Renew", j.Renew([][]byte{b}), api.ErrNone)
	}
	want(t, "Renew", j.Renew(nil), api.ErrNone)
	want(t, "Renew", j.Renew(slices.Repeat([][]byte{nil}, 1<<17)), api.ErrNone)
	want(t, "Append", j.Append(long), api.ErrLong)
	want(t, "Renew", j.Renew([][]byte{nil, long}), api.ErrLong)
	tells(t, j, 0, 0, 0)
}

// P7.3: a journal renewed again and again, by one Journal and by those of later lives.
func TestRenewAgain(t *testing.T) {
	p := fresh(t, 16)
	j := opened(t, p)
	var all [][]byte
	for age := 2; age < 400; age++ {
		all = nil
		for i := range age % 5 {
			all = append(all, run(byte(age), i*age%50))
		}
		want(t, "Renew", j.Renew(all), api.OK)
		room := 7
		for _, b := range all {
			room -= needs(b)
		}
		tells(t, j, len(all), room, age)
		for room > 0 && age%3 > 0 {
			b := run(byte(age+100), room%2)
			want(t, "Append", j.Append(b), api.OK)
			all = append(all, b)
			room--
			tells(t, j, len(all), room, age)
		}
		if age%2 == 0 {
			j = opened(t, p, all...)
			tells(t, j, len(all), room, age)
		}
	}
	opened(t, p, all...)
}

// P7.3: a journal is renewed until its life's and generations' second bytes count.
func TestRenewOften(t *testing.T) {
	p := fresh(t, 8)
	for i := range 70000 {
		j := opened(t, p, slices.Repeat([][]byte{{byte(i)}}, min(i, 1))...)
		want(t, "Renew", j.Renew([][]byte{{byte(i + 1)}}), api.OK)
	}
	tells(t, opened(t, p, []byte{byte(70000 % 256)}), 1, 2, 70001)
}

// P7.1, P7.2: the greatest plate, filled by as many records as there are pages.
func TestGreat(t *testing.T) {
	p := fresh(t, api.MaxPages)
	j := opened(t, p)
	var all [][]byte
	for i := range api.MaxPages/2 - 1 {
		b := []byte{byte(i), byte(i >> 8)}
		want(t, "Append", j.Append(b), api.OK)
		all = append(all, b)
	}
	tells(t, j, len(all), 0, 1)
	want(t, "Append", j.Append(nil), api.ErrFull)
	want(t, "Renew", j.Renew(append(slices.Clone(all), nil)), api.ErrFull)
	j = opened(t, p, all...)
	want(t, "Renew", j.Renew(all), api.OK)
	tells(t, opened(t, p, all...), len(all), 0, 2)
}

// The rule of memory.
func TestMemory(t *testing.T) {
	p := fresh(t, 40)
	j := opened(t, p)
	room := run(1, 90)
	list := [][]byte{room[:50], room[50:60], room[60:60]}
	want(t, "Renew", j.Renew(list[:2]), api.OK)
	want(t, "Append", j.Append(room[:7]), api.OK)
	if !bytes.Equal(room, run(1, 90)) || !alike(list, [][]byte{run(1, 50), run(51, 10), nil}) {
		t.Fatal("what was handed in has changed")
	}
	clear(room)
	clear(list)
	should := [][]byte{run(1, 50), run(51, 10), run(1, 7)}
	_, first, _ := journal.Open(p)
	_, second, _ := journal.Open(p)
	if !alike(first, should) || !alike(second, should) {
		t.Fatalf("% x, % x", first, second)
	}
	for i, b := range first {
		b = b[:cap(b)]
		for k := range b {
			b[k] = 0xff
		}
		for k := i + 1; k < len(first); k++ {
			if !bytes.Equal(first[k], should[k]) {
				t.Fatal("two lists of an answer share memory")
			}
		}
	}
	if !alike(second, should) {
		t.Fatal("two answers share memory")
	}
	opened(t, p, should...)
}
