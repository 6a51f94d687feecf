package lock_test

import (
	"math"
	"slices"
	"testing"

	"gusset/api"
	"gusset/lock"
)

// tx is the n-th transaction.
func tx(n int) api.TxID { return api.TxID{Node: 1, Inc: 1, Seq: uint32(n)} }

// txs is transactions by their numbers.
func txs(list ...int) []api.TxID {
	var ids []api.TxID
	for _, n := range list {
		ids = append(ids, tx(n))
	}
	return ids
}

// want is wants of one mode.
func want(mode byte, verts ...uint32) []api.Want {
	var list []api.Want
	for _, v := range verts {
		list = append(list, api.Want{V: v, Mode: mode})
	}
	return list
}

// shared and exclusive are wants of these modes.
func shared(verts ...uint32) []api.Want    { return want(api.Shared, verts...) }
func exclusive(verts ...uint32) []api.Want { return want(api.Exclusive, verts...) }

// every is wants of one mode of the vertices from 1 to n.
func every(mode byte, n int) []api.Want {
	var list []api.Want
	for v := range n {
		list = append(list, want(mode, uint32(v+1))...)
	}
	return list
}

// asks lets the n-th transaction, whose age is n, ask, and holds what it is answered against what it should be.
func asks(t *testing.T, table *lock.Table, n int, wants []api.Want, granted, wounded []api.TxID) {
	t.Helper()
	aged(t, table, tx(n), uint64(n), wants, granted, wounded)
}

// aged is asks of any transaction of any age.
func aged(t *testing.T, table *lock.Table, id api.TxID, age uint64, wants []api.Want, granted, wounded []api.TxID) {
	t.Helper()
	g, w, e := table.Ask(id, age, wants)
	if !slices.Equal(g, granted) || !slices.Equal(w, wounded) || e != api.OK {
		t.Fatalf("Ask(%v, %d, %v) = %v, %v, %v, not %v, %v", id, age, wants, g, w, e, granted, wounded)
	}
}

// refuses holds an error of Ask, which changes nothing, against what it should be.
func refuses(t *testing.T, table *lock.Table, id api.TxID, age uint64, wants []api.Want, should api.Errno) {
	t.Helper()
	before := told(table, id)
	g, w, e := table.Ask(id, age, wants)
	if len(g) != 0 || len(w) != 0 || e != should {
		t.Fatalf("Ask(%v, %d, %v) = %v, %v, %v, not %v", id, age, wants, g, w, e, should)
	}
	if after := told(table, id); !after.equal(before) {
		t.Fatalf("a refused Ask(%v, %d, %v) has changed %v to %v", id, age, wants, before, after)
	}
}

// state is what a table tells.
type state struct {
	locks [][]api.Want
	waits []api.TxID
	known []bool
	count int
}

// told is what the table tells, of that transaction and of some others.
func told(table *lock.Table, id api.TxID) state {
	s := state{waits: table.Waiting(), count: table.Count()}
	for _, one := range append(txs(0, 1, 2, 3, 4, 5, 6, 7, 8, 9), id) {
		s.locks = append(s.locks, table.Locks(one))
		s.known = append(s.known, table.Known(one))
	}
	return s
}

func (s state) equal(other state) bool {
	return slices.EqualFunc(s.locks, other.locks, slices.Equal[[]api.Want]) && slices.Equal(s.waits, other.waits) && slices.Equal(s.known, other.known) && s.count == other.count
}

// holds holds Hold of the n-th transaction against what it should answer.
func holds(t *testing.T, table *lock.Table, n int, should api.Errno) {
	t.Helper()
	before := told(table, tx(n))
	if e := table.Hold(tx(n)); e != should {
		t.Fatalf("Hold(%d) = %v, not %v", n, e, should)
	}
	if after := told(table, tx(n)); !after.equal(before) {
		t.Fatalf("Hold(%d) has changed %v to %v", n, before, after)
	}
}

// releases releases the n-th transaction and holds who is granted against who should be.
func releases(t *testing.T, table *lock.Table, n int, granted ...int) {
	t.Helper()
	g, e := table.Release(tx(n))
	if !slices.Equal(g, txs(granted...)) || e != api.OK {
		t.Fatalf("Release(%d) = %v, %v, not %v", n, g, e, granted)
	}
	if table.Known(tx(n)) || len(table.Locks(tx(n))) > 0 || slices.Contains(table.Waiting(), tx(n)) {
		t.Fatalf("%d is known behind its Release", n)
	}
}

// has holds what the n-th transaction holds, and that it is known if that is anything, against what it should.
func has(t *testing.T, table *lock.Table, n int, should ...api.Want) {
	t.Helper()
	if l := table.Locks(tx(n)); !slices.Equal(l, should) {
		t.Fatalf("Locks(%d) = %v, not %v", n, l, should)
	}
	waits := slices.Contains(table.Waiting(), tx(n))
	if known := table.Known(tx(n)); known != (len(should) > 0 || waits) {
		t.Fatalf("Known(%d) = %v", n, known)
	}
}

// wait holds who waits against who should.
func wait(t *testing.T, table *lock.Table, should ...int) {
	t.Helper()
	if l := table.Waiting(); !slices.Equal(l, txs(should...)) {
		t.Fatalf("Waiting = %v, not %v", l, should)
	}
}

// counts holds how many locks there are against how many there should be.
func counts(t *testing.T, table *lock.Table, should int) {
	t.Helper()
	if n := table.Count(); n != should {
		t.Fatalf("Count = %d, not %d", n, should)
	}
}

// P13.1, P13.2: the document's examples.
func TestExample(t *testing.T) {
	table := lock.New()
	asks(t, table, 2, exclusive(7), txs(2), nil)
	asks(t, table, 3, shared(7), nil, nil)
	wait(t, table, 3)
	asks(t, table, 1, exclusive(7), txs(1), txs(2))
	has(t, table, 2)
	releases(t, table, 1, 3)
	has(t, table, 3, shared(7)...)

	table = lock.New()
	asks(t, table, 2, exclusive(7), txs(2), nil)
	holds(t, table, 2, api.OK)
	asks(t, table, 1, exclusive(7), nil, nil)
	wait(t, table, 1)
	releases(t, table, 2, 1)
	has(t, table, 1, exclusive(7)...)
}

// P13.1: which modes of one vertex go together, and that an older one wounds where a younger one waits.
func TestClash(t *testing.T) {
	for _, first := range []byte{api.Shared, api.Exclusive} {
		for _, second := range []byte{api.Shared, api.Exclusive} {
			clash := first == api.Exclusive || second == api.Exclusive
			table := lock.New()
			asks(t, table, 5, want(first, 9), txs(5), nil)
			asks(t, table, 6, want(second, 8), txs(6), nil)
			if clash {
				granted := txs(4)
				if second == api.Shared {
					granted = txs(4, 7)
				}
				asks(t, table, 7, want(second, 9), nil, nil)
				asks(t, table, 4, want(second, 9), granted, txs(5))
				has(t, table, 5)
			} else {
				asks(t, table, 7, want(second, 9), txs(7), nil)
				asks(t, table, 4, want(second, 9), txs(4), nil)
				has(t, table, 5, want(first, 9)...)
			}
			has(t, table, 4, want(second, 9)...)
			has(t, table, 6, want(second, 8)...)
		}
	}
}

// P13.1: of all that it wants a transaction gets nothing, ahead of the time when it gets all.
func TestAllOrNone(t *testing.T) {
	table := lock.New()
	asks(t, table, 1, exclusive(2), txs(1), nil)
	asks(t, table, 2, exclusive(3), txs(2), nil)
	asks(t, table, 3, shared(1, 2, 3), nil, nil)
	has(t, table, 3)
	counts(t, table, 2)
	releases(t, table, 2)
	has(t, table, 3)
	releases(t, table, 1, 3)
	has(t, table, 3, shared(1, 2, 3)...)
	counts(t, table, 3)
}

// P13.1: a want waits behind the wants of older ones that still wait, be they clashing with a lock or not.
func TestBehindWants(t *testing.T) {
	table := lock.New()
	asks(t, table, 1, shared(1), txs(1), nil)
	asks(t, table, 3, exclusive(1, 2), nil, nil)
	asks(t, table, 4, shared(2), nil, nil)
	asks(t, table, 5, shared(1), nil, nil)
	asks(t, table, 6, shared(3), txs(6), nil)
	asks(t, table, 2, shared(1, 2), txs(2), nil)
	wait(t, table, 3, 4, 5)
	releases(t, table, 1)
	wait(t, table, 3, 4, 5)
	releases(t, table, 2, 3)
	wait(t, table, 4, 5)
	releases(t, table, 3, 4, 5)
	wait(t, table)
	counts(t, table, 3)
}

// P13.1: Shared wants stand behind Shared ones that wait without waiting themselves.
func TestSharedBehindShared(t *testing.T) {
	table := lock.New()
	asks(t, table, 1, exclusive(1), txs(1), nil)
	asks(t, table, 2, shared(1, 2), nil, nil)
	asks(t, table, 3, shared(2), txs(3), nil)
	asks(t, table, 4, exclusive(2), nil, nil)
	asks(t, table, 5, shared(2), nil, nil)
	releases(t, table, 1, 2)
	releases(t, table, 3)
	releases(t, table, 2, 4)
	releases(t, table, 4, 5)
}

// P13.1: whoever is wounded has nothing any more, neither locks of other vertices nor wants; others may be granted for it.
func TestWound(t *testing.T) {
	table := lock.New()
	asks(t, table, 5, exclusive(1, 2), txs(5), nil)
	asks(t, table, 6, exclusive(3), txs(6), nil)
	asks(t, table, 7, shared(4), txs(7), nil)
	asks(t, table, 8, shared(4), txs(8), nil)
	asks(t, table, 9, shared(2, 5), nil, nil)
	asks(t, table, 6, shared(2), nil, nil)
	wait(t, table, 6, 9)
	has(t, table, 6, exclusive(3)...)
	asks(t, table, 1, exclusive(4, 1), txs(1, 6, 9), txs(5, 7, 8))
	has(t, table, 1, exclusive(1, 4)...)
	has(t, table, 5)
	has(t, table, 6, append(shared(2), exclusive(3)...)...)
	has(t, table, 7)
	has(t, table, 8)
	has(t, table, 9, shared(2, 5)...)
	counts(t, table, 6)
	asks(t, table, 2, exclusive(3), txs(2), txs(6))
	releases(t, table, 6)
	counts(t, table, 5)
}

// P13.1: a wounded one that waits doesn't wait any more, and a wound may be for nothing but the place in the row.
func TestWoundWaiting(t *testing.T) {
	table := lock.New()
	asks(t, table, 1, exclusive(1), txs(1), nil)
	asks(t, table, 4, exclusive(2), txs(4), nil)
	asks(t, table, 4, exclusive(1), nil, nil)
	asks(t, table, 5, shared(1), nil, nil)
	asks(t, table, 2, shared(1, 2), nil, txs(4))
	wait(t, table, 2, 5)
	has(t, table, 4)
	releases(t, table, 1, 2, 5)
	refuses(t, table, tx(5), 6, shared(3), api.ErrState)
	aged(t, table, tx(4), 6, shared(1), txs(4), nil)
}

// P13.1: younger ones that only wait, that hold other vertices, or that don't clash, are not wounded.
func TestNotWounded(t *testing.T) {
	table := lock.New()
	asks(t, table, 1, exclusive(1), txs(1), nil)
	asks(t, table, 7, exclusive(1), nil, nil)
	asks(t, table, 8, shared(2), txs(8), nil)
	asks(t, table, 9, exclusive(3), txs(9), nil)
	asks(t, table, 3, append(exclusive(1), shared(2)...), nil, nil)
	wait(t, table, 3, 7)
	releases(t, table, 1, 3)
	releases(t, table, 3, 7)
	has(t, table, 8, shared(2)...)
	has(t, table, 9, exclusive(3)...)
}

// P13.2: who is fast isn't wounded; the others are, and who is older waits for it.
func TestFast(t *testing.T) {
	table := lock.New()
	asks(t, table, 5, shared(1), txs(5), nil)
	asks(t, table, 6, shared(1), txs(6), nil)
	asks(t, table, 7, shared(1), txs(7), nil)
	holds(t, table, 6, api.OK)
	holds(t, table, 6, api.OK)
	asks(t, table, 1, exclusive(1), nil, txs(5, 7))
	has(t, table, 6, shared(1)...)
	wait(t, table, 1)
	refuses(t, table, tx(6), 6, shared(2), api.ErrState)
	refuses(t, table, tx(6), 6, shared(1), api.ErrState)
	refuses(t, table, tx(6), 7, shared(1), api.ErrState)
	releases(t, table, 6, 1)
	// Behind its Release it isn't fast any more.
	releases(t, table, 1)
	asks(t, table, 6, shared(1), txs(6), nil)
	asks(t, table, 1, exclusive(1), txs(1), txs(6))
}

// P13.2: who isn't known can't be held, nor who waits, though it hold something.
func TestHoldErrors(t *testing.T) {
	table := lock.New()
	holds(t, table, 1, api.ErrNone)
	asks(t, table, 1, exclusive(1), txs(1), nil)
	asks(t, table, 2, exclusive(1), nil, nil)
	holds(t, table, 2, api.ErrState)
	asks(t, table, 3, exclusive(3), txs(3), nil)
	asks(t, table, 3, exclusive(1), nil, nil)
	holds(t, table, 3, api.ErrState)
	holds(t, table, 4, api.ErrNone)
	// Nobody is fast by a Hold that was refused.
	aged(t, table, tx(4), 0, exclusive(3), txs(4), txs(3))
	holds(t, table, 3, api.ErrNone)
	releases(t, table, 2)
	holds(t, table, 2, api.ErrNone)
	releases(t, table, 1)
	holds(t, table, 1, api.ErrNone)
}

// P13.1: what is held and wanted is of one vertex Exclusive, if either is.
func TestMore(t *testing.T) {
	table := lock.New()
	asks(t, table, 3, shared(1, 2), txs(3), nil)
	asks(t, table, 3, exclusive(2, 4), txs(3), nil)
	has(t, table, 3, api.Want{V: 1, Mode: api.Shared}, api.Want{V: 2, Mode: api.Exclusive}, api.Want{V: 4, Mode: api.Exclusive})
	asks(t, table, 3, shared(4, 3, 1), txs(3), nil)
	has(t, table, 3, api.Want{V: 1, Mode: api.Shared}, api.Want{V: 2, Mode: api.Exclusive}, api.Want{V: 3, Mode: api.Shared}, api.Want{V: 4, Mode: api.Exclusive})
	counts(t, table, 4)
	asks(t, table, 4, shared(4), nil, nil)
	asks(t, table, 5, shared(2), nil, nil)
	asks(t, table, 6, shared(1, 3), txs(6), nil)
	asks(t, table, 3, exclusive(3), txs(3), txs(6))
	releases(t, table, 3, 4, 5)
}

// P13.1: who holds a vertex Shared gets it Exclusive once nobody else has it, and holds it Shared till then.
func TestUpgrade(t *testing.T) {
	table := lock.New()
	asks(t, table, 2, shared(1), txs(2), nil)
	asks(t, table, 3, shared(1), txs(3), nil)
	asks(t, table, 3, exclusive(1), nil, nil)
	has(t, table, 3, shared(1)...)
	wait(t, table, 3)
	asks(t, table, 4, shared(1), nil, nil)
	releases(t, table, 2, 3)
	has(t, table, 3, exclusive(1)...)
	wait(t, table, 4)
	releases(t, table, 3, 4)
	// Both want more: the older one has it.
	asks(t, table, 2, shared(1), txs(2), nil)
	asks(t, table, 4, exclusive(1), nil, nil)
	asks(t, table, 2, exclusive(1), txs(2), txs(4))
	// An older one that waits for something else stands ahead.
	table = lock.New()
	asks(t, table, 1, exclusive(2), txs(1), nil)
	asks(t, table, 5, shared(1), txs(5), nil)
	asks(t, table, 3, shared(1, 2), nil, nil)
	asks(t, table, 5, exclusive(1), nil, nil)
	releases(t, table, 1, 3)
	wait(t, table, 5)
	releases(t, table, 3, 5)
}

// The Words: the lesser age is the older one; of equal ages the lesser Node, then Inc, then Seq.
func TestOlder(t *testing.T) {
	row := []struct {
		id  api.TxID
		age uint64
	}{
		{api.TxID{Node: 255, Inc: math.MaxUint32, Seq: math.MaxUint32}, 0},
		{api.TxID{Node: 3, Inc: 3, Seq: 3}, 1},
		{api.TxID{}, 2},
		{api.TxID{Seq: 1}, 2},
		{api.TxID{Seq: math.MaxUint32}, 2},
		{api.TxID{Inc: 1}, 2},
		{api.TxID{Inc: math.MaxUint32, Seq: 7}, 2},
		{api.TxID{Node: 1}, 2},
		{api.TxID{Node: 255}, 2},
		{api.TxID{Node: 2, Inc: 2, Seq: 2}, 1 << 32},
		{api.TxID{Node: 1, Inc: 1, Seq: 1}, 1 << 63},
		{api.TxID{Node: 0, Inc: 1, Seq: 1}, math.MaxUint64},
	}
	all, holder := lock.New(), api.TxID{Node: 9}
	aged(t, all, holder, 0, exclusive(1), []api.TxID{holder}, nil)
	if e := all.Hold(holder); e != api.OK {
		t.Fatal(e)
	}
	var rising []api.TxID
	for i := range row {
		j := (i*5 + 3) % len(row)
		aged(t, all, row[j].id, row[j].age, shared(1), nil, nil)
		rising = append(rising, row[i].id)
	}
	if l := all.Waiting(); !slices.Equal(l, rising) {
		t.Fatalf("Waiting = %v, not %v", l, rising)
	}
	if g, e := all.Release(holder); !slices.Equal(g, rising) || e != api.OK {
		t.Fatalf("Release = %v, %v, not %v", g, e, rising)
	}
	for i, a := range row {
		for _, b := range row[i+1:] {
			table := lock.New()
			aged(t, table, b.id, b.age, exclusive(1), []api.TxID{b.id}, nil)
			aged(t, table, a.id, a.age, exclusive(1), []api.TxID{a.id}, []api.TxID{b.id})
			aged(t, table, b.id, b.age, exclusive(1), nil, nil)
		}
	}
	aged(t, all, row[0].id, row[0].age, exclusive(1), rising[:1], rising[1:])
}

// P13.2: Release of one that isn't known, and of one that waits.
func TestRelease(t *testing.T) {
	table := lock.New()
	releases(t, table, 1)
	asks(t, table, 1, exclusive(1), txs(1), nil)
	asks(t, table, 2, exclusive(1), nil, nil)
	asks(t, table, 3, shared(1), nil, nil)
	asks(t, table, 4, shared(1), nil, nil)
	releases(t, table, 9)
	releases(t, table, 2)
	wait(t, table, 3, 4)
	releases(t, table, 1, 3, 4)
	releases(t, table, 3)
	releases(t, table, 3)
	// The one that waits stood in the way by its wants alone.
	asks(t, table, 5, exclusive(1), nil, nil)
	asks(t, table, 6, shared(1), nil, nil)
	releases(t, table, 5, 6)
	// Known again, it may be of another age.
	aged(t, table, tx(5), 0, exclusive(1), txs(5), txs(4, 6))
	counts(t, table, 1)
	releases(t, table, 5)
	counts(t, table, 0)
}

// P13.1: what is wrong, each by itself, and the least number of several; nothing changes by it.
func TestAskErrors(t *testing.T) {
	table := lock.New()
	asks(t, table, 1, exclusive(1), txs(1), nil)
	asks(t, table, 2, exclusive(2), txs(2), nil)
	asks(t, table, 2, exclusive(1), nil, nil)
	asks(t, table, 3, exclusive(3), txs(3), nil)
	holds(t, table, 3, api.OK)
	long := append(every(api.Shared, api.MaxVertex), shared(1)...)
	for _, c := range []struct {
		n      int
		age    uint64
		wants  []api.Want
		should api.Errno
	}{
		{4, 4, shared(0), api.ErrArg},
		{4, 4, shared(41), api.ErrArg},
		{4, 4, shared(math.MaxUint32), api.ErrArg},
		{4, 4, shared(5, 6, 0), api.ErrArg},
		{4, 4, want(0, 5), api.ErrArg},
		{4, 4, want(3, 5), api.ErrArg},
		{4, 4, want(255, 5), api.ErrArg},
		{4, 4, append(shared(5, 5), want(3, 6)...), api.ErrArg},
		{4, 4, append(slices.Clone(long), want(3, 6)...), api.ErrArg},
		{4, 4, append(slices.Clone(long), shared(41)...), api.ErrArg},
		{2, 2, shared(0), api.ErrArg},
		{3, 3, shared(0), api.ErrArg},
		{4, 4, long, api.ErrLong},
		{2, 2, long, api.ErrLong},
		{3, 3, long, api.ErrLong},
		{4, 4, nil, api.ErrForm},
		{4, 4, []api.Want{}, api.ErrForm},
		{4, 4, shared(5, 5), api.ErrForm},
		{4, 4, append(shared(5), exclusive(5)...), api.ErrForm},
		{4, 4, append(every(api.Exclusive, 39), shared(1)...), api.ErrForm},
		{2, 2, nil, api.ErrForm},
		{3, 3, shared(5, 5), api.ErrForm},
		{2, 2, shared(5), api.ErrState},
		{2, 2, exclusive(1), api.ErrState},
		{2, 9, exclusive(1), api.ErrState},
		{3, 3, shared(5), api.ErrState},
		{1, 0, shared(5), api.ErrState},
		{1, 2, shared(5), api.ErrState},
		{1, math.MaxUint64, exclusive(1), api.ErrState},
	} {
		refuses(t, table, tx(c.n), c.age, c.wants, c.should)
	}
	asks(t, table, 4, every(api.Shared, api.MaxVertex), nil, nil)
	asks(t, table, 1, shared(40), txs(1), nil)
}

// P13.1: MaxLocks may be held, counted with all wants; one more is refused, though it would take no room.
func TestFull(t *testing.T) {
	table := lock.New()
	for n := range 6 {
		asks(t, table, n+1, every(api.Shared, 40), txs(n+1), nil)
	}
	refuses(t, table, tx(7), 7, every(api.Shared, 17), api.ErrFull)
	asks(t, table, 7, every(api.Shared, 16), txs(7), nil)
	counts(t, table, api.MaxLocks)
	refuses(t, table, tx(8), 8, shared(1), api.ErrFull)
	refuses(t, table, tx(1), 1, shared(1), api.ErrFull)
	refuses(t, table, tx(0), 0, exclusive(1), api.ErrFull)
	refuses(t, table, tx(1), 2, shared(1), api.ErrState)
	refuses(t, table, tx(8), 8, shared(1, 1), api.ErrForm)
	holds(t, table, 7, api.OK)
	refuses(t, table, tx(7), 7, shared(1), api.ErrState)
	releases(t, table, 1)
	asks(t, table, 0, every(api.Exclusive, 40), nil, txs(2, 3, 4, 5, 6))
	counts(t, table, 16)
	releases(t, table, 7, 0)
	counts(t, table, 40)
}

// P13.1: what is waited for is no lock yet: ErrFull doesn't see it, and they may all be granted at once.
func TestFullWaiting(t *testing.T) {
	table := lock.New()
	asks(t, table, 1, every(api.Exclusive, 40), txs(1), nil)
	for n := 2; n <= 9; n++ {
		asks(t, table, n, every(api.Shared, 40), nil, nil)
	}
	counts(t, table, 40)
	releases(t, table, 1, 2, 3, 4, 5, 6, 7, 8, 9)
	counts(t, table, 320)
	refuses(t, table, tx(10), 10, shared(1), api.ErrFull)
	releases(t, table, 2)
	releases(t, table, 3)
	refuses(t, table, tx(10), 10, every(api.Shared, 17), api.ErrFull)
	asks(t, table, 10, every(api.Shared, 16), txs(10), nil)
}

// A nil *Table has nothing, and what is wrong with wants goes ahead of that.
func TestNil(t *testing.T) {
	var table *lock.Table
	refuses(t, table, tx(1), 1, shared(1), api.ErrNone)
	refuses(t, table, tx(1), 1, shared(0), api.ErrArg)
	refuses(t, table, tx(1), 1, append(every(api.Shared, 40), shared(1)...), api.ErrLong)
	refuses(t, table, tx(1), 1, nil, api.ErrForm)
	if e := table.Hold(tx(1)); e != api.ErrNone {
		t.Errorf("Hold = %v", e)
	}
	if g, e := table.Release(tx(1)); len(g) != 0 || e != api.ErrNone {
		t.Errorf("Release = %v, %v", g, e)
	}
	has(t, table, 1)
	wait(t, table)
	counts(t, table, 0)
}

// The rule of memory: what is handed in is neither changed nor kept; what is answered is new.
func TestMemory(t *testing.T) {
	table := lock.New()
	asks(t, table, 1, exclusive(1), txs(1), nil)
	room := append(shared(1, 3), exclusive(9)...)
	handed := slices.Clone(room)
	asks(t, table, 2, handed[:2], nil, nil)
	if !slices.Equal(handed, room) {
		t.Fatalf("what was handed in has changed: %v", handed)
	}
	clear(handed)
	asks(t, table, 3, shared(1), nil, nil)
	before := table.Waiting()
	again := table.Waiting()
	clear(again[:cap(again)])
	wait(t, table, 2, 3)
	g, e := table.Release(tx(1))
	if !slices.Equal(g, txs(2, 3)) || e != api.OK || !slices.Equal(before, txs(2, 3)) {
		t.Fatal(g, e, before)
	}
	clear(g[:cap(g)])
	has(t, table, 2, shared(1, 3)...)
	mine := table.Locks(tx(2))
	clear(mine[:cap(mine)])
	has(t, table, 2, shared(1, 3)...)
	granted, wounded, e := table.Ask(tx(0), 0, exclusive(3, 1))
	if !slices.Equal(granted, txs(0)) || !slices.Equal(wounded, txs(2, 3)) || e != api.OK {
		t.Fatal(granted, wounded, e)
	}
	clear(granted[:cap(granted)])
	if !slices.Equal(wounded, txs(2, 3)) {
		t.Fatalf("two lists of one answer share memory: %v", wounded)
	}
	has(t, table, 0, exclusive(1, 3)...)
}

// The promises on objects: one table knows nothing of another one.
func TestTwo(t *testing.T) {
	one, two := lock.New(), lock.New()
	asks(t, one, 1, exclusive(1), txs(1), nil)
	asks(t, two, 2, exclusive(1), txs(2), nil)
	has(t, one, 2)
	has(t, two, 1)
	asks(t, two, 1, exclusive(1), txs(1), txs(2))
	has(t, one, 1, exclusive(1)...)
}

// Many that wait: each is granted in its turn.
func TestMany(t *testing.T) {
	table := lock.New()
	const many = 2000
	for n := range many {
		granted := txs()
		if n == 0 {
			granted = txs(0)
		}
		asks(t, table, n, exclusive(uint32(n%3+1), 40), granted, nil)
	}
	if l := table.Waiting(); len(l) != many-1 || l[0] != tx(1) {
		t.Fatal(len(l))
	}
	for n := range many - 1 {
		releases(t, table, n, n+1)
		counts(t, table, 2)
	}
	releases(t, table, many-1)
	counts(t, table, 0)
}
