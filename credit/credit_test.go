package credit_test

import (
	"math"
	"testing"

	"gusset/api"
	"gusset/credit"
)

// most is the greatest number.
const most = math.MaxUint64

// splits holds a Split against what it should answer.
func splits(t *testing.T, amount uint64, m int, share, rest uint64, should api.Errno) {
	t.Helper()
	if s, r, e := credit.Split(amount, m); s != share || r != rest || e != should {
		t.Fatalf("Split(%d, %d) = %d, %d, %v, not %d, %d, %v", amount, m, s, r, e, share, rest, should)
	}
}

// comes holds a Back, and what is out behind it, against what they should be.
func comes(t *testing.T, p *credit.Pool, node byte, num, amount uint64, first bool, should api.Errno, out uint64) {
	t.Helper()
	if is, e := p.Back(node, num, amount); is != first || e != should {
		t.Fatalf("Back(%d, %d, %d) = %v, %v, not %v, %v", node, num, amount, is, e, first, should)
	}
	tells(t, p, out)
}

// tells holds what a pool tells against what is out.
func tells(t *testing.T, p *credit.Pool, out uint64) {
	t.Helper()
	if p.Out() != out || p.Done() != (out == 0) {
		t.Fatalf("Out = %d, Done = %v, not %d", p.Out(), p.Done(), out)
	}
}

// P17.1, P17.2: the document's examples.
func TestExample(t *testing.T) {
	splits(t, 10, 3, 2, 4, api.OK)
	splits(t, 3, 3, 0, 0, api.ErrRange)
	p := credit.New()
	comes(t, p, 0, 1, credit.Whole, true, api.OK, 0)
	comes(t, p, 0, 1, credit.Whole, false, api.OK, 0)
}

// P17.1: some splits, worked out by hand.
func TestSplit(t *testing.T) {
	for _, amount := range []uint64{1, 2, 10, credit.Whole, credit.Whole + 1, 1 << 63, most} {
		splits(t, amount, 0, amount, amount, api.OK)
	}
	splits(t, 2, 1, 1, 1, api.OK)
	splits(t, 3, 1, 1, 2, api.OK)
	splits(t, 4, 1, 2, 2, api.OK)
	splits(t, 3, 2, 1, 1, api.OK)
	splits(t, 5, 2, 1, 3, api.OK)
	splits(t, 4, 3, 1, 1, api.OK)
	splits(t, 7, 3, 1, 4, api.OK)
	splits(t, 5, 4, 1, 1, api.OK)
	splits(t, 9, 4, 1, 5, api.OK)
	splits(t, 10, 4, 2, 2, api.OK)
	splits(t, credit.Whole, 1, 1<<59, 1<<59, api.OK)
	splits(t, credit.Whole, 3, 1<<58, 1<<58, api.OK)
	splits(t, most, 1, 1<<63-1, 1<<63, api.OK)
	splits(t, most, 4, most/5, most/5, api.OK)
	splits(t, most-1, 4, most/5-1, most/5+3, api.OK)
}

// P17.1: what is split is all there behind it: the shares are alike, the rest is no less than one, and less than one and
// the remainder more.
func TestSplitWhole(t *testing.T) {
	var amounts []uint64
	for n := range uint64(500) {
		amounts = append(amounts, n, credit.Whole-250+n, most-n)
	}
	for shift := range 64 {
		amounts = append(amounts, 1<<shift, 3<<shift, 1<<shift-1)
	}
	for _, amount := range amounts {
		for m := range api.MaxNodes + 1 {
			n := uint64(m)
			if amount <= n {
				splits(t, amount, m, 0, 0, api.ErrRange)
				continue
			}
			share, rest, e := credit.Split(amount, m)
			if e != api.OK || share == 0 || rest < share || rest-share > n {
				t.Fatalf("Split(%d, %d) = %d, %d, %v", amount, m, share, rest, e)
			}
			if m > 0 && share*n+rest != amount || m == 0 && (share != amount || rest != amount) {
				t.Fatalf("Split(%d, %d) = %d, %d: that is not all", amount, m, share, rest)
			}
		}
	}
}

// P17.1: of nothing there are no shares; how many there may be goes ahead of that.
func TestSplitWrong(t *testing.T) {
	for m := range api.MaxNodes + 1 {
		splits(t, 0, m, 0, 0, api.ErrRange)
		splits(t, uint64(m), m, 0, 0, api.ErrRange)
	}
	for _, m := range []int{-1, -2, -5, 5, 6, 255, 256, 1 << 32, math.MaxInt, math.MinInt, math.MinInt32} {
		for _, amount := range []uint64{0, 1, 6, credit.Whole, most} {
			splits(t, amount, m, 0, 0, api.ErrArg)
		}
	}
}

// P17.2: all is out at first; as much as came is out no more, until nothing is.
func TestBack(t *testing.T) {
	if credit.Whole != 1<<60 {
		t.Fatal("Whole =", uint64(credit.Whole))
	}
	p := credit.New()
	tells(t, p, credit.Whole)
	comes(t, p, 0, 1, 1, true, api.OK, credit.Whole-1)
	comes(t, p, 0, 2, 1<<59, true, api.OK, 1<<59-1)
	comes(t, p, 1, 7, 1<<59-2, true, api.OK, 1)
	comes(t, p, 1, 8, 1, true, api.OK, 0)
}

// P17.2: messages are told apart by the node and the number together, each as great as it may be.
func TestMessages(t *testing.T) {
	p := credit.New()
	out := uint64(credit.Whole)
	nums := []uint64{0, 1, 2, 255, 256, 257, 1<<32 - 1, 1 << 32, 1<<32 + 1, 1 << 56, 1<<56 + 1, 1 << 63, most - 1, most}
	nodes := []byte{0, 1, 2, 3, 4, 100, 255}
	for _, num := range nums {
		for _, node := range nodes {
			out -= 3
			comes(t, p, node, num, 3, true, api.OK, out)
		}
	}
	for _, num := range nums {
		for _, node := range nodes {
			comes(t, p, node, num, 3, false, api.OK, out)
		}
	}
	comes(t, p, 5, 0, 1, true, api.OK, out-1)
}

// P17.2: what comes again is nothing, however much it brings then, and behind the end too.
func TestAgain(t *testing.T) {
	p := credit.New()
	comes(t, p, 2, 9, 100, true, api.OK, credit.Whole-100)
	for _, amount := range []uint64{0, 1, 99, 100, 101, credit.Whole - 100, credit.Whole - 99, credit.Whole, credit.Whole + 1, most} {
		comes(t, p, 2, 9, amount, false, api.OK, credit.Whole-100)
	}
	comes(t, p, 2, 10, credit.Whole-100, true, api.OK, 0)
	for _, amount := range []uint64{0, 1, 100, credit.Whole, most} {
		comes(t, p, 2, 9, amount, false, api.OK, 0)
		comes(t, p, 2, 10, amount, false, api.OK, 0)
	}
}

// P17.2: more than is out: nothing happens, and the message hasn't come; just as much as is out is not more.
func TestMore(t *testing.T) {
	p := credit.New()
	for _, amount := range []uint64{credit.Whole + 1, credit.Whole + 2, 1 << 61, 1 << 63, most - 1, most} {
		comes(t, p, 0, 1, amount, false, api.ErrRange, credit.Whole)
	}
	comes(t, p, 0, 1, credit.Whole-5, true, api.OK, 5)
	comes(t, p, 3, 4, 6, false, api.ErrRange, 5)
	comes(t, p, 3, 4, 6, false, api.ErrRange, 5)
	comes(t, p, 3, 4, 5, true, api.OK, 0)
	comes(t, p, 3, 4, 6, false, api.OK, 0)
	for _, amount := range []uint64{1, 5, credit.Whole, most} {
		comes(t, p, 3, 5, amount, false, api.ErrRange, 0)
	}
}

// P17.2: a message that brings nothing comes too, the first time and again, also behind the end.
func TestNothing(t *testing.T) {
	p := credit.New()
	comes(t, p, 1, 1, 0, true, api.OK, credit.Whole)
	comes(t, p, 1, 1, 0, false, api.OK, credit.Whole)
	comes(t, p, 1, 1, 7, false, api.OK, credit.Whole)
	comes(t, p, 1, 2, credit.Whole, true, api.OK, 0)
	comes(t, p, 1, 3, 0, true, api.OK, 0)
	comes(t, p, 1, 3, 0, false, api.OK, 0)
}

// P17.2: a nil *Pool has nothing out, and isn't done.
func TestNil(t *testing.T) {
	var p *credit.Pool
	for _, amount := range []uint64{0, 1, credit.Whole} {
		if is, e := p.Back(0, 1, amount); is || e != api.ErrNone {
			t.Fatalf("Back(0, 1, %d) = %v, %v", amount, is, e)
		}
	}
	if p.Out() != 0 || p.Done() {
		t.Fatalf("Out = %d, Done = %v", p.Out(), p.Done())
	}
}

// The promises on objects: one pool knows nothing of another one.
func TestTwo(t *testing.T) {
	one, two := credit.New(), credit.New()
	comes(t, one, 0, 1, credit.Whole, true, api.OK, 0)
	tells(t, two, credit.Whole)
	comes(t, two, 0, 1, 4, true, api.OK, credit.Whole-4)
	tells(t, one, 0)
}
