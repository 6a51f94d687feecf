package commit_test

import (
	"math"
	"slices"
	"testing"

	"gusset/api"
	"gusset/commit"
)

// t1 and t2 are two transactions.
var (
	t1 = api.TxID{Node: 1, Inc: 1, Seq: 1}
	t2 = api.TxID{Node: 1, Inc: 1, Seq: 2}
)

// begins begins the transaction, and holds what is answered against what it should be.
func begins(t *testing.T, b *commit.Book, tx api.TxID, should api.Errno, nodes ...byte) {
	t.Helper()
	if e := b.Begin(tx, nodes); e != should {
		t.Fatalf("Begin(%v, %v) = %v, not %v", tx, nodes, e, should)
	}
}

// votes holds a Vote against what it should answer.
func votes(t *testing.T, b *commit.Book, tx api.TxID, node byte, yes bool, stands int, should api.Errno) {
	t.Helper()
	if s, e := b.Vote(tx, node, yes); s != stands || e != should {
		t.Fatalf("Vote(%v, %d, %v) = %d, %v, not %d, %v", tx, node, yes, s, e, stands, should)
	}
}

// commits holds a Commit against what it should answer.
func commits(t *testing.T, b *commit.Book, tx api.TxID, should api.Errno) {
	t.Helper()
	if e := b.Commit(tx); e != should {
		t.Fatalf("Commit(%v) = %v, not %v", tx, e, should)
	}
}

// applies holds an Applied against what it should answer.
func applies(t *testing.T, b *commit.Book, tx api.TxID, node byte, all bool, should api.Errno) {
	t.Helper()
	if a, e := b.Applied(tx, node); a != all || e != should {
		t.Fatalf("Applied(%v, %d) = %v, %v, not %v, %v", tx, node, a, e, all, should)
	}
}

// runs holds how the transaction that is run stands, and who owes something, against what it should be.
func runs(t *testing.T, b *commit.Book, tx api.TxID, stands int, owing ...byte) {
	t.Helper()
	if s := b.Runs(tx); s != stands {
		t.Fatalf("Runs(%v) = %d, not %d", tx, s, stands)
	}
	if l := b.Owing(tx); !slices.Equal(l, owing) {
		t.Fatalf("Owing(%v) = %v, not %v", tx, l, owing)
	}
}

// takes holds a Take against what it should answer.
func takes(t *testing.T, b *commit.Book, tx api.TxID, should api.Errno) {
	t.Helper()
	if e := b.Take(tx); e != should {
		t.Fatalf("Take(%v) = %v, not %v", tx, e, should)
	}
}

// settles holds a Settle against what it should answer, and how it stands then.
func settles(t *testing.T, b *commit.Book, tx api.TxID, s int, should api.Errno, stands int) {
	t.Helper()
	if e := b.Settle(tx, s); e != should {
		t.Fatalf("Settle(%v, %d) = %v, not %v", tx, s, e, should)
	}
	if got := b.Stands(tx); got != stands {
		t.Fatalf("Stands(%v) = %d, not %d", tx, got, stands)
	}
}

// doubts holds those that are held against those that should be.
func doubts(t *testing.T, b *commit.Book, should ...api.TxID) {
	t.Helper()
	if l := b.Doubt(); !slices.Equal(l, should) {
		t.Fatalf("Doubt = %v, not %v", l, should)
	}
}

// The numbers of how a transaction stands.
func TestNumbers(t *testing.T) {
	if commit.Unknown != 0 || commit.Open != 1 || commit.Held != 2 || commit.Committed != 3 || commit.Aborted != 4 {
		t.Fatal("the numbers are others")
	}
}

// P14.1, P14.2: the document's examples.
func TestExample(t *testing.T) {
	b := commit.New()
	begins(t, b, t1, api.OK, 0, 2)
	votes(t, b, t1, 0, true, commit.Open, api.OK)
	commits(t, b, t1, api.ErrState)
	votes(t, b, t1, 2, true, commit.Committed, api.OK)
	commits(t, b, t1, api.OK)
	runs(t, b, t1, commit.Committed, 0, 2)
	applies(t, b, t1, 2, false, api.OK)
	applies(t, b, t1, 0, true, api.OK)
	begins(t, b, t2, api.OK, 1)
	votes(t, b, t2, 1, false, commit.Aborted, api.OK)
	commits(t, b, t2, api.ErrState)
}

// P14.1: all have voted, and yet it is open till Commit; a yes again changes nothing.
func TestCommit(t *testing.T) {
	b := commit.New()
	begins(t, b, t1, api.OK, 3, 0, 2, 1)
	runs(t, b, t1, commit.Open, 0, 1, 2, 3)
	votes(t, b, t1, 2, true, commit.Open, api.OK)
	runs(t, b, t1, commit.Open, 0, 1, 3)
	votes(t, b, t1, 2, true, commit.Open, api.OK)
	votes(t, b, t1, 3, true, commit.Open, api.OK)
	votes(t, b, t1, 0, true, commit.Open, api.OK)
	runs(t, b, t1, commit.Open, 1)
	commits(t, b, t1, api.ErrState)
	votes(t, b, t1, 1, true, commit.Committed, api.OK)
	runs(t, b, t1, commit.Open)
	applies(t, b, t1, 1, false, api.ErrState)
	votes(t, b, t1, 3, true, commit.Committed, api.OK)
	runs(t, b, t1, commit.Open)
	commits(t, b, t1, api.OK)
	runs(t, b, t1, commit.Committed, 0, 1, 2, 3)
	commits(t, b, t1, api.OK)
	votes(t, b, t1, 3, true, commit.Committed, api.OK)
	votes(t, b, t1, 3, false, 0, api.ErrState)
	runs(t, b, t1, commit.Committed, 0, 1, 2, 3)
}

// P14.1: one No, and it is aborted for good.
func TestAbort(t *testing.T) {
	b := commit.New()
	begins(t, b, t1, api.OK, 0, 1, 2)
	votes(t, b, t1, 1, true, commit.Open, api.OK)
	votes(t, b, t1, 0, false, commit.Aborted, api.OK)
	runs(t, b, t1, commit.Aborted)
	votes(t, b, t1, 2, true, 0, api.ErrState)
	votes(t, b, t1, 0, true, 0, api.ErrState)
	votes(t, b, t1, 0, false, 0, api.ErrState)
	votes(t, b, t1, 1, false, 0, api.ErrState)
	votes(t, b, t1, 1, true, commit.Aborted, api.OK)
	commits(t, b, t1, api.ErrState)
	applies(t, b, t1, 1, false, api.ErrState)
	begins(t, b, t1, api.ErrExists, 0, 1, 2)
	runs(t, b, t1, commit.Aborted)
}

// P14.1: a No behind all the Yes, ahead of Commit, aborts it too.
func TestLateNo(t *testing.T) {
	b := commit.New()
	begins(t, b, t1, api.OK, 0, 1)
	votes(t, b, t1, 1, true, commit.Open, api.OK)
	votes(t, b, t1, 0, true, commit.Committed, api.OK)
	votes(t, b, t1, 1, false, commit.Aborted, api.OK)
	runs(t, b, t1, commit.Aborted)
	votes(t, b, t1, 0, true, commit.Aborted, api.OK)
	votes(t, b, t1, 1, true, commit.Aborted, api.OK)
	commits(t, b, t1, api.ErrState)
	runs(t, b, t1, commit.Aborted)
}

// P14.2: each applies it, in any order, some more than once; then nothing is owed, and it stands as it did.
func TestApplied(t *testing.T) {
	b := commit.New()
	begins(t, b, t1, api.OK, 2, 1, 3)
	applies(t, b, t1, 1, false, api.ErrState)
	for _, node := range []byte{1, 2, 3} {
		b.Vote(t1, node, true)
	}
	commits(t, b, t1, api.OK)
	applies(t, b, t1, 2, false, api.OK)
	runs(t, b, t1, commit.Committed, 1, 3)
	applies(t, b, t1, 2, false, api.OK)
	runs(t, b, t1, commit.Committed, 1, 3)
	commits(t, b, t1, api.OK)
	applies(t, b, t1, 3, false, api.OK)
	runs(t, b, t1, commit.Committed, 1)
	applies(t, b, t1, 0, false, api.ErrArg)
	applies(t, b, t1, 4, false, api.ErrArg)
	applies(t, b, t1, 255, false, api.ErrArg)
	runs(t, b, t1, commit.Committed, 1)
	applies(t, b, t1, 1, true, api.OK)
	runs(t, b, t1, commit.Committed)
	applies(t, b, t1, 3, true, api.OK)
	commits(t, b, t1, api.OK)
	votes(t, b, t1, 3, true, commit.Committed, api.OK)
	begins(t, b, t1, api.ErrExists, 1)
	runs(t, b, t1, commit.Committed)
}

// P14.1: what is wrong with Begin, each by itself, and the least number of several.
func TestBeginErrors(t *testing.T) {
	b := commit.New()
	for _, c := range []struct {
		nodes  []byte
		should api.Errno
	}{
		{nil, api.ErrArg},
		{[]byte{}, api.ErrArg},
		{[]byte{4}, api.ErrArg},
		{[]byte{255}, api.ErrArg},
		{[]byte{0, 1, 2, 4}, api.ErrArg},
		{[]byte{0, 1, 2, 3, 0}, api.ErrArg},
		{make([]byte, 300), api.ErrArg},
		{[]byte{0, 0, 4}, api.ErrArg},
		{[]byte{4, 0, 0}, api.ErrArg},
		{[]byte{0, 0}, api.ErrForm},
		{[]byte{3, 1, 2, 3}, api.ErrForm},
		{make([]byte, 4), api.ErrForm},
	} {
		begins(t, b, t1, c.should, c.nodes...)
		runs(t, b, t1, commit.Unknown)
		begins(t, nil, t1, c.should, c.nodes...)
	}
	begins(t, b, t1, api.OK, 3)
	begins(t, b, t1, api.ErrExists, 3)
	begins(t, b, t1, api.ErrExists, 0, 1)
	begins(t, b, t1, api.ErrForm, 3, 3)
	begins(t, b, t1, api.ErrArg)
	runs(t, b, t1, commit.Open, 3)
}

// P14.1, P14.2: transactions that it doesn't run, and nodes that are none of theirs.
func TestRunErrors(t *testing.T) {
	b := commit.New()
	takes(t, b, t1, api.OK)
	votes(t, b, t1, 0, true, 0, api.ErrNone)
	votes(t, b, t1, 0, false, 0, api.ErrNone)
	commits(t, b, t1, api.ErrNone)
	applies(t, b, t1, 0, false, api.ErrNone)
	runs(t, b, t1, commit.Unknown)
	begins(t, b, t1, api.OK, 0, 2)
	for _, node := range []byte{1, 3, 4, 5, 255} {
		for _, yes := range []bool{true, false} {
			votes(t, b, t1, node, yes, 0, api.ErrArg)
		}
		// ErrArg goes ahead of ErrState.
		applies(t, b, t1, node, false, api.ErrArg)
	}
	runs(t, b, t1, commit.Open, 0, 2)
	votes(t, b, t1, 0, false, commit.Aborted, api.OK)
	votes(t, b, t1, 1, true, 0, api.ErrArg)
	votes(t, b, t1, 4, false, 0, api.ErrArg)
	applies(t, b, t1, 3, false, api.ErrArg)
	applies(t, b, t1, 2, false, api.ErrState)
	runs(t, b, t1, commit.Aborted)
	commits(t, b, t2, api.ErrNone)
}

// P14.3: a held one stands as it is settled, and stays so.
func TestTake(t *testing.T) {
	for _, s := range []int{commit.Committed, commit.Aborted} {
		other := commit.Committed + commit.Aborted - s
		b := commit.New()
		settles(t, b, t1, s, api.ErrNone, commit.Unknown)
		takes(t, b, t1, api.OK)
		takes(t, b, t1, api.ErrExists)
		doubts(t, b, t1)
		for _, wrong := range []int{commit.Unknown, commit.Open, commit.Held, 5, -1, math.MaxInt, math.MinInt} {
			settles(t, b, t1, wrong, api.ErrArg, commit.Held)
			settles(t, b, t2, wrong, api.ErrArg, commit.Unknown)
		}
		settles(t, b, t1, s, api.OK, s)
		doubts(t, b)
		settles(t, b, t1, s, api.OK, s)
		settles(t, b, t1, other, api.ErrState, s)
		settles(t, b, t1, commit.Held, api.ErrArg, s)
		settles(t, b, t1, s, api.OK, s)
		takes(t, b, t1, api.ErrExists)
		settles(t, b, t1, s, api.OK, s)
		settles(t, b, t2, s, api.ErrNone, commit.Unknown)
	}
}

// P14.3: those that are held rise by Node, then Inc, then Seq, however they came.
func TestDoubt(t *testing.T) {
	rising := []api.TxID{
		{},
		{Seq: 1},
		{Seq: math.MaxUint32},
		{Inc: 1},
		{Inc: 1, Seq: 9},
		{Inc: math.MaxUint32, Seq: 2},
		{Node: 1},
		{Node: 1, Seq: 8},
		{Node: 1, Inc: 3},
		{Node: 2, Inc: 1, Seq: 1},
		{Node: 255, Seq: 3},
		{Node: 255, Inc: 1 << 31},
		{Node: 255, Inc: math.MaxUint32, Seq: math.MaxUint32},
	}
	b := commit.New()
	doubts(t, b)
	for i := range rising {
		takes(t, b, rising[(i*5+2)%len(rising)], api.OK)
	}
	doubts(t, b, rising...)
	left := slices.Clone(rising)
	for i, tx := range rising {
		settles(t, b, tx, commit.Committed+i%2, api.OK, commit.Committed+i%2)
		left = left[1:]
		doubts(t, b, left...)
	}
}

// What it runs and that in which it takes part are two things, though the transaction be one.
func TestBoth(t *testing.T) {
	b := commit.New()
	begins(t, b, t1, api.OK, 1)
	settles(t, b, t1, commit.Committed, api.ErrNone, commit.Unknown)
	doubts(t, b)
	takes(t, b, t1, api.OK)
	votes(t, b, t1, 1, true, commit.Committed, api.OK)
	settles(t, b, t1, commit.Aborted, api.OK, commit.Aborted)
	runs(t, b, t1, commit.Open)
	commits(t, b, t1, api.OK)
	settles(t, b, t1, commit.Aborted, api.OK, commit.Aborted)
	runs(t, b, t1, commit.Committed, 1)
}

// A nil *Book knows nothing, and what is wrong with what it is given goes ahead of that.
func TestNil(t *testing.T) {
	var b *commit.Book
	begins(t, b, t1, api.ErrNone, 0, 1)
	votes(t, b, t1, 0, true, 0, api.ErrNone)
	votes(t, b, t1, 0, false, 0, api.ErrNone)
	commits(t, b, t1, api.ErrNone)
	applies(t, b, t1, 0, false, api.ErrNone)
	runs(t, b, t1, commit.Unknown)
	takes(t, b, t1, api.ErrNone)
	settles(t, b, t1, commit.Held, api.ErrArg, commit.Unknown)
	settles(t, b, t1, commit.Committed, api.ErrNone, commit.Unknown)
	settles(t, b, t1, commit.Aborted, api.ErrNone, commit.Unknown)
	doubts(t, b)
}

// The rule of memory: what is handed in is neither changed nor kept; what is answered is new.
func TestMemory(t *testing.T) {
	b := commit.New()
	room := []byte{2, 0, 3, 1}
	begins(t, b, t1, api.OK, room[:3]...)
	if !slices.Equal(room, []byte{2, 0, 3, 1}) {
		t.Fatalf("what was handed in has changed: %v", room)
	}
	clear(room)
	runs(t, b, t1, commit.Open, 0, 2, 3)
	owing := b.Owing(t1)
	clear(owing[:cap(owing)])
	runs(t, b, t1, commit.Open, 0, 2, 3)
	takes(t, b, t1, api.OK)
	takes(t, b, t2, api.OK)
	before, again := b.Doubt(), b.Doubt()
	clear(again[:cap(again)])
	doubts(t, b, t1, t2)
	settles(t, b, t1, commit.Aborted, api.OK, commit.Aborted)
	doubts(t, b, t2)
	if !slices.Equal(before, []api.TxID{t1, t2}) {
		t.Fatalf("what was answered has changed: %v", before)
	}
}

// The promises on objects: one book knows nothing of another one.
func TestTwo(t *testing.T) {
	one, two := commit.New(), commit.New()
	begins(t, one, t1, api.OK, 0)
	takes(t, two, t1, api.OK)
	runs(t, two, t1, commit.Unknown)
	doubts(t, one)
	begins(t, two, t1, api.OK, 1)
	votes(t, two, t1, 1, false, commit.Aborted, api.OK)
	runs(t, one, t1, commit.Open, 0)
}
