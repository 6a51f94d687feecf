package plate_test

import (
	"bytes"
	"math"
	"slices"
	"testing"

	"gusset/api"
	"gusset/plate"
)

// fresh is a new plate.
func fresh(t *testing.T, pages int) *plate.Plate {
	t.Helper()
	p, e := plate.New(pages)
	if e != api.OK || p == nil {
		t.Fatalf("New(%d) = %v, %v", pages, p, e)
	}
	return p
}

// want holds an error against what it should be.
func want(t *testing.T, what string, got, should api.Errno) {
	t.Helper()
	if got != should {
		t.Fatalf("%s: %v, not %v", what, got, should)
	}
}

// page is 64 bytes: those of the lists, one behind the other, and 00s.
func page(lists ...[]byte) []byte {
	p := make([]byte, 0, api.Page)
	for _, l := range lists {
		p = append(p, l...)
	}
	return append(p, make([]byte, api.Page-len(p))...)
}

// run is n bytes b.
func run(b byte, n int) []byte { return bytes.Repeat([]byte{b}, n) }

// has holds a page against what it should be.
func has(t *testing.T, p *plate.Plate, i int, should []byte) {
	t.Helper()
	got, e := p.Read(i)
	if e != api.OK || !bytes.Equal(got, should) {
		t.Fatalf("Read(%d) = % x, %v, not % x", i, got, e, should)
	}
}

// P6.1: New.
func TestNew(t *testing.T) {
	for _, n := range []int{math.MinInt, -1, 0, api.MaxPages + 1, math.MaxInt} {
		if p, e := plate.New(n); p != nil || e != api.ErrArg {
			t.Errorf("New(%d) = %v, %v", n, p, e)
		}
	}
	for _, n := range []int{1, 2, 8, api.MaxPages - 1, api.MaxPages} {
		p := fresh(t, n)
		if p.Len() != n || p.Ops() != 0 || !p.On() || len(p.Written()) != 0 {
			t.Errorf("New(%d): Len %d, Ops %d, On %v, Written %v", n, p.Len(), p.Ops(), p.On(), p.Written())
		}
		for _, i := range []int{0, n / 2, n - 1} {
			has(t, p, i, page())
		}
	}
}

// P6.1: Write, Read.
func TestWrite(t *testing.T) {
	p := fresh(t, 4)
	for k := range api.Page + 1 {
		want(t, "Write", p.Write(3, run(byte(k+1), k)), api.OK)
		has(t, p, 3, page(run(byte(k+1), k)))
	}
	has(t, p, 2, page())
	want(t, "Write", p.Write(3, nil), api.OK)
	has(t, p, 3, page())
	want(t, "Write", p.Write(0, []byte{0, 0, 9}), api.OK)
	has(t, p, 0, page([]byte{0, 0, 9}))
	if p.Ops() != api.Page+3 {
		t.Fatalf("Ops = %d", p.Ops())
	}
}

// P6.1: Written tells the pages that are not all 00, rising, lasting or not.
func TestWritten(t *testing.T) {
	p := fresh(t, api.MaxPages)
	written := func(should ...int) {
		t.Helper()
		if got := p.Written(); !slices.Equal(got, should) {
			t.Fatalf("Written = %v, not %v", got, should)
		}
	}
	written()
	for _, i := range []int{300, 7, api.MaxPages - 1, 0, 299} {
		want(t, "Write", p.Write(i, []byte{0, 1}), api.OK)
	}
	written(0, 7, 299, 300, api.MaxPages-1)
	want(t, "Flush", p.Flush(), api.OK)
	written(0, 7, 299, 300, api.MaxPages-1)
	want(t, "Write", p.Write(299, make([]byte, api.Page)), api.OK)
	want(t, "Write", p.Write(7, nil), api.OK)
	want(t, "Write", p.Write(5, []byte{0}), api.OK)
	want(t, "Write", p.Write(6, page(run(0, api.Page-1), []byte{1})), api.OK)
	written(0, 6, 300, api.MaxPages-1)
	want(t, "Arm", p.Arm(1), api.OK)
	want(t, "Flush", p.Flush(), api.ErrDown)
	written()
	want(t, "Restart", p.Restart(plate.Fate{Keep: []byte{1, 0, 1, 0}}), api.OK)
	written(0, 7, 300, api.MaxPages-1)
}

// P6.1: what is refused changes nothing and doesn't count.
func TestRefused(t *testing.T) {
	p := fresh(t, 4)
	want(t, "Write", p.Write(1, []byte{7}), api.OK)
	want(t, "Arm", p.Arm(1), api.OK)
	for _, i := range []int{math.MinInt, -1, 4, 5, api.MaxPages, math.MaxInt} {
		want(t, "Write of no page", p.Write(i, []byte{1}), api.ErrArg)
		want(t, "a long Write of no page", p.Write(i, run(1, api.Page+1)), api.ErrArg)
		if b, e := p.Read(i); len(b) != 0 || e != api.ErrArg {
			t.Fatalf("Read(%d) = % x, %v", i, b, e)
		}
	}
	want(t, "a long Write", p.Write(1, run(1, api.Page+1)), api.ErrLong)
	want(t, "a longer Write", p.Write(1, run(1, 1<<16)), api.ErrLong)
	want(t, "a long Write of 00s", p.Write(1, run(0, api.Page+1)), api.ErrLong)
	for _, n := range []int{-1, math.MinInt} {
		want(t, "Arm below 0", p.Arm(n), api.ErrArg)
	}
	want(t, "Restart, the power being on", p.Restart(plate.Fate{}), api.ErrState)
	want(t, "Restart, the power being on", p.Restart(plate.Fate{Keep: []byte{1}}), api.ErrState)
	if p.Ops() != 1 || !p.On() || !slices.Equal(p.Written(), []int{1}) {
		t.Fatalf("Ops %d, On %v, Written %v", p.Ops(), p.On(), p.Written())
	}
	has(t, p, 1, page([]byte{7}))
	// The Arm is still in force, and what was written doesn't last yet.
	want(t, "Flush", p.Flush(), api.ErrDown)
	want(t, "Restart", p.Restart(plate.Fate{}), api.OK)
	has(t, p, 1, page())
}

// P6.1 to P6.3: of a nil plate.
func TestNilPlate(t *testing.T) {
	var p *plate.Plate
	for _, i := range []int{math.MinInt, -1} {
		want(t, "Write below 0", p.Write(i, nil), api.ErrArg)
		want(t, "a long Write below 0", p.Write(i, run(1, api.Page+1)), api.ErrArg)
		want(t, "Arm below 0", p.Arm(i), api.ErrArg)
		if b, e := p.Read(i); len(b) != 0 || e != api.ErrArg {
			t.Errorf("Read(%d) = % x, %v", i, b, e)
		}
	}
	for _, i := range []int{0, 1, api.MaxPages, math.MaxInt} {
		want(t, "Write", p.Write(i, nil), api.ErrNone)
		want(t, "Write", p.Write(i, run(1, api.Page)), api.ErrNone)
		want(t, "a long Write", p.Write(i, run(1, api.Page+1)), api.ErrLong)
		want(t, "Arm", p.Arm(i), api.ErrNone)
		if b, e := p.Read(i); len(b) != 0 || e != api.ErrNone {
			t.Errorf("Read(%d) = % x, %v", i, b, e)
		}
	}
	want(t, "Flush", p.Flush(), api.ErrNone)
	want(t, "Restart", p.Restart(plate.Fate{}), api.ErrNone)
	want(t, "Restart", p.Restart(plate.Fate{Keep: []byte{1}}), api.ErrNone)
	if p.On() || p.Ops() != 0 || p.Len() != 0 || len(p.Written()) != 0 {
		t.Error("a nil plate has something")
	}
}

// P6.2: the power goes at the n-th operation; a Write is done first, a Flush isn't.
func TestArm(t *testing.T) {
	for n := 1; n <= 6; n++ {
		p := fresh(t, 8)
		want(t, "Write", p.Write(7, []byte{7}), api.OK)
		want(t, "Arm", p.Arm(n), api.OK)
		for i := 1; i < n; i++ {
			want(t, "Write", p.Write(i, []byte{byte(i)}), api.OK)
			want(t, "a long Write", p.Write(i, run(1, api.Page+1)), api.ErrLong)
			if _, e := p.Read(i); e != api.OK || !p.On() || p.Ops() != 1+i {
				t.Fatalf("Arm(%d): behind operation %d: %v, On %v, Ops %d", n, i, e, p.On(), p.Ops())
			}
		}
		want(t, "the last Write", p.Write(0, []byte{9}), api.ErrDown)
		if p.On() || p.Ops() != 1+n {
			t.Fatalf("Arm(%d): On %v, Ops %d", n, p.On(), p.Ops())
		}
		want(t, "Restart", p.Restart(plate.Fate{Keep: run(1, 1+n)}), api.OK)
		has(t, p, 0, page([]byte{9}))
		if !p.On() || p.Ops() != 1+n {
			t.Fatalf("behind Restart: On %v, Ops %d", p.On(), p.Ops())
		}
	}
}

// P6.2: at a Flush nothing is done.
func TestArmFlush(t *testing.T) {
	p := fresh(t, 2)
	want(t, "Write", p.Write(0, []byte{1}), api.OK)
	want(t, "Arm", p.Arm(3), api.OK)
	want(t, "Flush", p.Flush(), api.OK)
	want(t, "Write", p.Write(0, []byte{2}), api.OK)
	want(t, "Flush", p.Flush(), api.ErrDown)
	if p.On() || p.Ops() != 4 {
		t.Fatalf("On %v, Ops %d", p.On(), p.Ops())
	}
	want(t, "Restart", p.Restart(plate.Fate{}), api.OK)
	has(t, p, 0, page([]byte{1}))
}

// P6.2: a later Arm takes the earlier one's place, and so does Restart, with none.
func TestArmAgain(t *testing.T) {
	p := fresh(t, 2)
	ops := func(n int) {
		t.Helper()
		for range n {
			want(t, "Flush", p.Flush(), api.OK)
		}
	}
	want(t, "Arm", p.Arm(2), api.OK)
	ops(1)
	want(t, "Arm", p.Arm(4), api.OK)
	ops(3)
	want(t, "Arm", p.Arm(0), api.OK)
	ops(9)
	want(t, "Arm", p.Arm(math.MaxInt), api.OK)
	ops(9)
	want(t, "Arm", p.Arm(5), api.OK)
	want(t, "Arm", p.Arm(1), api.OK)
	want(t, "Flush", p.Flush(), api.ErrDown)
	want(t, "Restart", p.Restart(plate.Fate{}), api.OK)
	ops(20)
	if p.Ops() != 43 {
		t.Fatalf("Ops = %d", p.Ops())
	}
}

// P6.2: when the power is off nothing works but Restart and what only looks.
func TestOff(t *testing.T) {
	p := fresh(t, 4)
	want(t, "Write", p.Write(0, []byte{1}), api.OK)
	want(t, "Arm", p.Arm(2), api.OK)
	want(t, "Write", p.Write(1, []byte{2}), api.OK)
	want(t, "Flush", p.Flush(), api.ErrDown)
	for range 2 {
		want(t, "Write", p.Write(0, []byte{8}), api.ErrDown)
		want(t, "Flush", p.Flush(), api.ErrDown)
		want(t, "Arm", p.Arm(0), api.ErrDown)
		want(t, "Arm", p.Arm(1), api.ErrDown)
		want(t, "Arm below 0", p.Arm(-1), api.ErrArg)
		want(t, "Write of no page", p.Write(4, nil), api.ErrArg)
		want(t, "a long Write", p.Write(0, run(1, api.Page+1)), api.ErrLong)
		if b, e := p.Read(0); len(b) != 0 || e != api.ErrDown {
			t.Fatalf("Read = % x, %v", b, e)
		}
		if b, e := p.Read(-1); len(b) != 0 || e != api.ErrArg {
			t.Fatalf("Read of no page = % x, %v", b, e)
		}
		if len(p.Written()) != 0 || p.On() || p.Ops() != 3 || p.Len() != 4 {
			t.Fatalf("Written %v, On %v, Ops %d, Len %d", p.Written(), p.On(), p.Ops(), p.Len())
		}
	}
	want(t, "Restart", p.Restart(plate.Fate{Keep: []byte{1, 1, 1}}), api.OK)
	if !p.On() || p.Ops() != 3 || !slices.Equal(p.Written(), []int{0, 1}) {
		t.Fatalf("Written %v, On %v, Ops %d", p.Written(), p.On(), p.Ops())
	}
	has(t, p, 0, page([]byte{1}))
	has(t, p, 1, page([]byte{2}))
	want(t, "Restart again", p.Restart(plate.Fate{}), api.ErrState)
}

// P6.3: the document's examples, and each byte of Keep.
func TestFate(t *testing.T) {
	old, late := run(1, api.Page), page([]byte{2}, run(3, 40))
	for k := range 256 {
		p := fresh(t, 4)
		want(t, "Write", p.Write(0, old), api.OK)
		want(t, "Flush", p.Flush(), api.OK)
		want(t, "Write", p.Write(0, late[:41]), api.OK)
		want(t, "Arm", p.Arm(1), api.OK)
		want(t, "Flush", p.Flush(), api.ErrDown)
		want(t, "Restart", p.Restart(plate.Fate{Keep: []byte{byte(k)}}), api.OK)
		should := [][]byte{old, late, page(late[:api.HalfPage], old[api.HalfPage:]), page(old[:api.HalfPage], late[api.HalfPage:])}
		has(t, p, 0, should[k%4])
	}
}

// P6.3: the first example, where the first half alone is there.
func TestExample(t *testing.T) {
	for _, c := range []struct {
		keep   []byte
		should []byte
	}{
		{[]byte{2}, page([]byte{2}, run(3, 31))}, {nil, page([]byte{1})}, {[]byte{1}, page([]byte{2}, run(3, 40))},
		{[]byte{3}, page([]byte{1}, run(0, 31), run(3, 9))}, {[]byte{0, 1, 1}, page([]byte{1})},
	} {
		p := fresh(t, 4)
		want(t, "Write", p.Write(0, []byte{1}), api.OK)
		want(t, "Flush", p.Flush(), api.OK)
		want(t, "Write", p.Write(0, append([]byte{2}, run(3, 40)...)), api.OK)
		want(t, "Arm", p.Arm(1), api.OK)
		want(t, "Flush", p.Flush(), api.ErrDown)
		want(t, "Restart", p.Restart(plate.Fate{Keep: c.keep}), api.OK)
		has(t, p, 0, c.should)
		want(t, "Write of no page", p.Write(4, nil), api.ErrArg)
	}
}

// P6.3: writes come over their pages in their order, each as is said at its place among all that don't last.
func TestFateOrder(t *testing.T) {
	p := fresh(t, 4)
	for i, b := range []byte{11, 12, 13, 14} {
		want(t, "Write", p.Write(i%2, run(b, api.Page)), api.OK)
	}
	want(t, "Arm", p.Arm(1), api.OK)
	want(t, "Write", p.Write(0, nil), api.ErrDown)
	keep := []byte{1, 3, 2, 2, 7}
	want(t, "Restart", p.Restart(plate.Fate{Keep: keep}), api.OK)
	has(t, p, 0, page(run(13, 32)))
	has(t, p, 1, page(run(14, 32), run(12, 32)))
	if !bytes.Equal(keep, []byte{1, 3, 2, 2, 7}) {
		t.Fatal("what was handed in has changed")
	}
}

// P6.3: all lasts that Restart leaves, and places are counted anew.
func TestRestartLasts(t *testing.T) {
	p := fresh(t, 2)
	cut := func(keep ...byte) {
		t.Helper()
		want(t, "Arm", p.Arm(1), api.OK)
		want(t, "Flush", p.Flush(), api.ErrDown)
		want(t, "Restart", p.Restart(plate.Fate{Keep: keep}), api.OK)
	}
	want(t, "Write", p.Write(0, run(5, api.Page)), api.OK)
	cut(2)
	half := page(run(5, 32))
	has(t, p, 0, half)
	cut()
	has(t, p, 0, half)
	cut(0)
	has(t, p, 0, half)
	cut(1, 1)
	has(t, p, 0, half)
	want(t, "Write", p.Write(0, run(6, api.Page)), api.OK)
	cut(3)
	has(t, p, 0, page(run(5, 32), run(6, 32)))
	want(t, "Write", p.Write(0, nil), api.OK)
	cut()
	has(t, p, 0, page(run(5, 32), run(6, 32)))
}

// The rule of memory.
func TestMemory(t *testing.T) {
	p := fresh(t, 4)
	room := run(8, 80)
	want(t, "Write", p.Write(2, room[:3]), api.OK)
	if !bytes.Equal(room, run(8, 80)) {
		t.Fatal("what was handed in has changed")
	}
	copy(room, run(9, 80))
	has(t, p, 2, page(run(8, 3)))

	first, _ := p.Read(2)
	second, _ := p.Read(2)
	copy(first[:cap(first)], run(7, cap(first)))
	list, again := p.Written(), p.Written()
	for i := range list[:cap(list)] {
		list[:cap(list)][i] = 3
	}
	has(t, p, 2, page(run(8, 3)))
	if !bytes.Equal(second, page(run(8, 3))) || !slices.Equal(again, []int{2}) || !slices.Equal(p.Written(), []int{2}) {
		t.Fatal("an answer shares memory")
	}

	other := fresh(t, 4)
	has(t, other, 2, page())
	if other.Ops() != 0 {
		t.Fatal("plates share something")
	}
}
