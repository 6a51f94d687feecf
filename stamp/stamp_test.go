package stamp_test

import (
	"math"
	"math/rand"
	"slices"
	"testing"

	"gusset/api"
	"gusset/stamp"
)

const most = math.MaxUint64

// P5.1: New, Tick, See, Now.
func TestClock(t *testing.T) {
	c := stamp.New()
	if c.Now() != 0 {
		t.Fatalf("a new clock shows %d", c.Now())
	}
	steps := []struct {
		tick bool
		see  uint64
		want uint64
	}{
		{true, 0, 1}, {false, 5, 6}, {false, 2, 7}, {false, 0, 8}, {true, 0, 9}, {false, 9, 10}, {false, 10, 11}, {false, 12, 13},
		{true, 0, 14}, {false, 1 << 63, 1<<63 + 1}, {true, 0, 1<<63 + 2}, {false, most - 2, most - 1}, {true, 0, most}, {true, 0, most},
		{false, 0, most}, {false, most, most}, {true, 0, most},
	}
	for i, s := range steps {
		var got uint64
		if s.tick {
			got = c.Tick()
		} else {
			got = c.See(s.see)
		}
		if got != s.want || c.Now() != s.want || c.Now() != s.want {
			t.Fatalf("step %d answers %d and shows %d, not %d", i, got, c.Now(), s.want)
		}
	}
}

// P5.1: numbers end at 2^64 - 1.
func TestClockEnds(t *testing.T) {
	for _, c := range []struct{ see, want uint64 }{{most, most}, {most - 1, most}, {most - 2, most - 1}, {0, 1}} {
		clock := stamp.New()
		if got := clock.See(c.see); got != c.want || clock.Now() != c.want {
			t.Errorf("See(%d) = %d", c.see, got)
		}
	}
	c := stamp.New()
	c.See(most)
	if c.See(0) != most || c.See(most-1) != most || c.Tick() != most || c.Now() != most {
		t.Errorf("a clock at its end shows %d", c.Now())
	}
}

// P5.1: of a nil clock.
func TestNilClock(t *testing.T) {
	var c *stamp.Clock
	for range 2 {
		if c.Tick() != 0 || c.See(7) != 0 || c.See(most) != 0 || c.Now() != 0 {
			t.Fatal("a nil clock shows something")
		}
	}
}

// P5.1: clocks know nothing of one another.
func TestClocksApart(t *testing.T) {
	a, b := stamp.New(), stamp.New()
	a.See(40)
	if b.Now() != 0 || b.Tick() != 1 || a.Now() != 41 {
		t.Fatal("one clock has told the other")
	}
}

func at(n uint64, node byte, inc, seq uint32) stamp.Stamp {
	return stamp.Stamp{N: n, Tx: api.TxID{Node: node, Inc: inc, Seq: seq}}
}

// rising is stamps, each one elder than the next.
var rising = []stamp.Stamp{
	at(0, 0, 0, 0), at(0, 0, 0, 1), at(0, 0, 0, math.MaxUint32), at(0, 0, 1, 0), at(0, 0, 1, 9), at(0, 0, math.MaxUint32, 0),
	at(0, 1, 0, 0), at(0, 1, 5, 6), at(0, 1, 6, 5), at(0, 127, 0, 0), at(0, 128, 0, 0), at(0, 255, 0, 0),
	at(1, 0, 0, 0), at(1, 0, 1, 0), at(5, 0, 0, 0), at(5, 1, 0, 0), at(math.MaxInt64, 9, 9, 9), at(1<<63, 0, 0, 0),
	at(most-1, 255, math.MaxUint32, math.MaxUint32), at(most, 0, 0, 0), at(most, 255, math.MaxUint32, math.MaxUint32),
}

// P5.2: Order.
func TestOrder(t *testing.T) {
	for i, a := range rising {
		for k, b := range rising {
			want := 0
			if i < k {
				want = -1
			} else if i > k {
				want = 1
			}
			if got := stamp.Order(a, b); got != want {
				t.Errorf("Order(%v, %v) = %d, not %d", a, b, got, want)
			}
		}
	}
	if got := stamp.Order(at(5, 1, 0, 0), at(5, 0, 0, 0)); got != 1 {
		t.Errorf("the example's order is %d", got)
	}
}

// P5.2: Sort and Eldest, of lists in which stamps stand more than once.
func TestSort(t *testing.T) {
	random := rand.New(rand.NewSource(5))
	for n := range 200 {
		var want []stamp.Stamp
		for _, s := range rising {
			for range random.Intn(3) {
				want = append(want, s)
			}
		}
		want = want[:min(n, len(want))]
		list := slices.Clone(want)
		random.Shuffle(len(list), func(i, k int) { list[i], list[k] = list[k], list[i] })
		before := slices.Clone(list)
		if got := stamp.Sort(list); !slices.Equal(got, want) {
			t.Fatalf("Sort(%v) = %v", list, got)
		}
		eldest, ok := stamp.Eldest(list)
		if ok != (len(want) > 0) || ok && eldest != want[0] || !ok && eldest != (stamp.Stamp{}) {
			t.Fatalf("Eldest(%v) = %v, %v", list, eldest, ok)
		}
		if !slices.Equal(list, before) {
			t.Fatal("what was handed in has changed")
		}
	}
}

// P5.2: of lists with nothing, and with one.
func TestSortFew(t *testing.T) {
	for _, list := range [][]stamp.Stamp{nil, {}, rising[:0]} {
		if got := stamp.Sort(list); len(got) != 0 {
			t.Errorf("Sort of nothing = %v", got)
		}
		if s, ok := stamp.Eldest(list); ok || s != (stamp.Stamp{}) {
			t.Errorf("Eldest of nothing = %v, %v", s, ok)
		}
	}
	one := rising[7:8]
	if got := stamp.Sort(one); !slices.Equal(got, one) {
		t.Errorf("Sort of one = %v", got)
	}
	if s, ok := stamp.Eldest(one); !ok || s != one[0] {
		t.Errorf("Eldest of one = %v, %v", s, ok)
	}
}

// The rule of memory: an answer is new, its spare room too.
func TestSortMemory(t *testing.T) {
	list := []stamp.Stamp{rising[3], rising[1], rising[2], rising[9]}
	first, second := stamp.Sort(list[:3]), stamp.Sort(list[:3])
	for _, got := range [][]stamp.Stamp{first, stamp.Sort(list[:0])} {
		for i := range got[:cap(got)] {
			got[:cap(got)][i] = at(77, 7, 7, 7)
		}
	}
	if !slices.Equal(list, []stamp.Stamp{rising[3], rising[1], rising[2], rising[9]}) || !slices.Equal(second, rising[1:4]) {
		t.Fatal("an answer shares memory")
	}
	list[0] = rising[0]
	if !slices.Equal(second, rising[1:4]) {
		t.Fatal("what was handed in is kept")
	}
}

// happening is something that happened to somebody: its number, and, for each of those who are there, how many things
// that happened to him it has heard of.
type happening struct {
	n     uint64
	heard []int
}

// P5.3: what happened ahead of something else has the lesser number, by clocks that see one another's numbers.
func TestAhead(t *testing.T) {
	const many = 4
	random := rand.New(rand.NewSource(53))
	for range 50 {
		var clocks [many]*stamp.Clock
		var heard [many][]int
		for i := range many {
			clocks[i], heard[i] = stamp.New(), make([]int, many)
		}
		var all []happening
		for range 80 {
			who := random.Intn(many)
			if len(all) == 0 || random.Intn(2) == 0 {
				clocks[who].Tick()
			} else {
				letter := all[random.Intn(len(all))]
				clocks[who].See(letter.n)
				for i, n := range letter.heard {
					heard[who][i] = max(heard[who][i], n)
				}
			}
			heard[who][who]++
			all = append(all, happening{clocks[who].Now(), slices.Clone(heard[who])})
		}
		for i, a := range all {
			for k, b := range all {
				if i != k && isWithin(a.heard, b.heard) && a.n >= b.n {
					t.Fatalf("%v is ahead of %v", a, b)
				}
			}
		}
	}
}

// isWithin tells whether all of a was heard of by b too.
func isWithin(a, b []int) bool {
	for i, n := range a {
		if n > b[i] {
			return false
		}
	}
	return true
}
