package session_test

import (
	"math"
	"slices"
	"testing"
	"unsafe"

	"gusset/api"
	"gusset/session"
)

// most is the greatest number of a request.
const most = math.MaxUint32

// ans is answers that differ from one another.
func ans(n int) api.Answer {
	return api.Answer{
		E:    api.Errno(n % 16),
		At:   n,
		Vals: []api.Value{{Kind: api.Int, N: int64(n)}, {Kind: api.Text, S: "text"[:n%5]}},
		List: []uint32{uint32(n), 7},
	}
}

// alike tells whether two answers are the same; nil and empty lists are.
func alike(a, b api.Answer) bool {
	return a.E == b.E && a.At == b.At && slices.Equal(a.Vals, b.Vals) && slices.Equal(a.List, b.List)
}

// is holds what a request is against what it should be, and what Ask answers beside that against nothing.
func is(t *testing.T, table *session.Table, client byte, seq uint32, should int, fault api.Errno) {
	t.Helper()
	if s, a, e := table.Ask(client, seq); s != should || e != fault || !alike(a, api.Answer{}) {
		t.Fatalf("Ask(%d, %d) = %d, %v, %v, not %d, nothing, %v", client, seq, s, a, e, should, fault)
	}
}

// done holds it that a request has its answer.
func done(t *testing.T, table *session.Table, client byte, seq uint32, should api.Answer) {
	t.Helper()
	if s, a, e := table.Ask(client, seq); s != session.Done || e != api.OK || !alike(a, should) {
		t.Fatalf("Ask(%d, %d) = %d, %v, %v, not done, %v", client, seq, s, a, e, should)
	}
}

// last holds a Last against what it should answer.
func last(t *testing.T, table *session.Table, client byte, should uint32, answer api.Answer, fault api.Errno) {
	t.Helper()
	if n, a, e := table.Last(client); n != should || e != fault || !alike(a, answer) {
		t.Fatalf("Last(%d) = %d, %v, %v, not %d, %v, %v", client, n, a, e, should, answer, fault)
	}
}

// starts holds a Start against what it should answer.
func starts(t *testing.T, table *session.Table, client byte, seq uint32, should api.Errno) {
	t.Helper()
	if e := table.Start(client, seq); e != should {
		t.Fatalf("Start(%d, %d) = %v, not %v", client, seq, e, should)
	}
}

// finishes holds a Finish against what it should answer.
func finishes(t *testing.T, table *session.Table, client byte, seq uint32, a api.Answer, should api.Errno) {
	t.Helper()
	if e := table.Finish(client, seq, a); e != should {
		t.Fatalf("Finish(%d, %d, %v) = %v, not %v", client, seq, a, e, should)
	}
}

// fails holds a Fail against what it should answer.
func fails(t *testing.T, table *session.Table, client byte, seq uint32, should api.Errno) {
	t.Helper()
	if e := table.Fail(client, seq); e != should {
		t.Fatalf("Fail(%d, %d) = %v, not %v", client, seq, e, should)
	}
}

// The numbers of what a request is, and of the window.
func TestNumbers(t *testing.T) {
	if session.Fresh != 0 || session.Running != 1 || session.Done != 2 || session.Window != 4 {
		t.Fatal("the numbers are others")
	}
}

// P15.1, P15.2: the document's examples.
func TestExample(t *testing.T) {
	table := session.New()
	starts(t, table, 0, 1, api.OK)
	starts(t, table, 0, 2, api.ErrBusy)
	is(t, table, 0, 1, session.Running, api.OK)
	finishes(t, table, 0, 1, ans(1), api.OK)
	done(t, table, 0, 1, ans(1))
	is(t, table, 0, 2, session.Fresh, api.OK)
	is(t, table, 0, 6, 0, api.ErrRange)
	starts(t, table, 0, 1, api.ErrState)
}

// P15.1: of a new table nothing is finished, nor does anything run.
func TestNew(t *testing.T) {
	table := session.New()
	for client := range byte(api.MaxClients) {
		last(t, table, client, 0, api.Answer{}, api.OK)
		for seq := range uint32(4) {
			is(t, table, client, seq+1, session.Fresh, api.OK)
		}
		for _, seq := range []uint32{5, 6, 1 << 31, most - 1, most} {
			is(t, table, client, seq, 0, api.ErrRange)
		}
		last(t, table, client, 0, api.Answer{}, api.OK)
	}
}

// P15.1: what is below the last, what it is, what may come, what is too far; wherever the last stands.
func TestAsk(t *testing.T) {
	for _, n := range []uint32{1, 2, 5, 300, 1 << 31, most - 6, most - 5, most - 4, most - 3, most - 2, most - 1, most} {
		table := session.New()
		finishes(t, table, 2, n, ans(9), api.OK)
		last(t, table, 2, n, ans(9), api.OK)
		done(t, table, 2, n, ans(9))
		for _, seq := range []uint32{1, 2, n / 2, n - 2, n - 1} {
			if 0 < seq && seq < n {
				is(t, table, 2, seq, 0, api.ErrStale)
				starts(t, table, 2, seq, api.ErrState)
			}
		}
		for d := range uint64(session.Window + 3) {
			seq := uint64(n) + d + 1
			switch {
			case seq > most:
			case d < session.Window:
				is(t, table, 2, uint32(seq), session.Fresh, api.OK)
				starts(t, table, 2, uint32(seq), api.OK)
				is(t, table, 2, uint32(seq), session.Running, api.OK)
				fails(t, table, 2, uint32(seq), api.OK)
				is(t, table, 2, uint32(seq), session.Fresh, api.OK)
			default:
				is(t, table, 2, uint32(seq), 0, api.ErrRange)
				starts(t, table, 2, uint32(seq), api.ErrRange)
			}
		}
		last(t, table, 2, n, ans(9), api.OK)
		done(t, table, 2, n, ans(9))
	}
}

// P15.1: Running is the one that runs, alone; a look changes nothing.
func TestRunning(t *testing.T) {
	table := session.New()
	starts(t, table, 1, 3, api.OK)
	for range 2 {
		is(t, table, 1, 1, session.Fresh, api.OK)
		is(t, table, 1, 2, session.Fresh, api.OK)
		is(t, table, 1, 3, session.Running, api.OK)
		is(t, table, 1, 4, session.Fresh, api.OK)
		is(t, table, 1, 5, 0, api.ErrRange)
		last(t, table, 1, 0, api.Answer{}, api.OK)
	}
}

// P15.2: while one runs no other one starts, nor that one again; each error goes ahead of ErrBusy.
func TestBusy(t *testing.T) {
	table := session.New()
	finishes(t, table, 3, 10, ans(1), api.OK)
	starts(t, table, 3, 12, api.OK)
	for _, c := range []struct {
		seq    uint32
		should api.Errno
	}{
		{0, api.ErrArg}, {1, api.ErrState}, {9, api.ErrState}, {10, api.ErrState}, {11, api.ErrBusy}, {12, api.ErrBusy},
		{13, api.ErrBusy}, {14, api.ErrBusy}, {15, api.ErrRange}, {16, api.ErrRange}, {most, api.ErrRange},
	} {
		starts(t, table, 3, c.seq, c.should)
	}
	is(t, table, 3, 12, session.Running, api.OK)
	is(t, table, 3, 11, session.Fresh, api.OK)
	is(t, table, 3, 13, session.Fresh, api.OK)
	done(t, table, 3, 10, ans(1))
	fails(t, table, 3, 12, api.OK)
	starts(t, table, 3, 14, api.OK)
	is(t, table, 3, 12, session.Fresh, api.OK)
	is(t, table, 3, 14, session.Running, api.OK)
}

// P15.2: what is finished needn't have run, and may be far ahead; what runs below it, or is it, runs no more.
func TestFinish(t *testing.T) {
	for _, c := range []struct{ runs, seq uint32 }{
		{0, 1}, {1, 1}, {1, 2}, {3, 2}, {4, 1}, {2, 4}, {4, 4}, {4, 3}, {3, 4}, {0, 5}, {4, 5}, {1, 100}, {0, most}, {4, most},
	} {
		table := session.New()
		if c.runs != 0 {
			starts(t, table, 0, c.runs, api.OK)
		}
		finishes(t, table, 0, c.seq, ans(3), api.OK)
		last(t, table, 0, c.seq, ans(3), api.OK)
		done(t, table, 0, c.seq, ans(3))
		if c.runs > c.seq {
			is(t, table, 0, c.runs, session.Running, api.OK)
			starts(t, table, 0, c.seq+1, api.ErrBusy)
		} else if c.seq < most {
			is(t, table, 0, c.seq+1, session.Fresh, api.OK)
			starts(t, table, 0, c.seq+1, api.OK)
		}
	}
}

// P15.2: what is finished stays: no answer is told of it a second time, nor one of an earlier request.
func TestFinishAgain(t *testing.T) {
	table := session.New()
	finishes(t, table, 0, 3, ans(3), api.OK)
	starts(t, table, 0, 5, api.OK)
	for _, seq := range []uint32{3, 2, 1} {
		finishes(t, table, 0, seq, ans(4), api.ErrState)
		starts(t, table, 0, seq, api.ErrState)
		last(t, table, 0, 3, ans(3), api.OK)
		done(t, table, 0, 3, ans(3))
		is(t, table, 0, 5, session.Running, api.OK)
	}
	is(t, table, 0, 2, 0, api.ErrStale)
	finishes(t, table, 0, 4, ans(4), api.OK)
	is(t, table, 0, 3, 0, api.ErrStale)
	done(t, table, 0, 4, ans(4))
	last(t, table, 0, 4, ans(4), api.OK)
	is(t, table, 0, 5, session.Running, api.OK)
	finishes(t, table, 0, most, ans(5), api.OK)
	finishes(t, table, 0, most, ans(6), api.ErrState)
	last(t, table, 0, most, ans(5), api.OK)
}

// P15.2: the last answer is all of the last one, with nothing of those ahead of it.
func TestAnswers(t *testing.T) {
	table := session.New()
	for i, a := range []api.Answer{
		ans(8), {}, {E: api.ErrEdges, At: 3}, {Vals: []api.Value{{}}}, {List: []uint32{0}}, {At: -1}, {E: -5},
		{E: math.MaxInt, At: math.MinInt}, {Vals: make([]api.Value, 1000), List: make([]uint32, 1000)},
		{Vals: []api.Value{{Kind: 200, N: math.MinInt64, S: "not in \x00 form"}}}, {Vals: []api.Value{}, List: []uint32{}}, ans(2),
	} {
		seq := uint32(i + 1)
		starts(t, table, 1, seq, api.OK)
		finishes(t, table, 1, seq, a, api.OK)
		last(t, table, 1, seq, a, api.OK)
		done(t, table, 1, seq, a)
	}
}

// P15.2: Fail ends the running of that request and of no other one; it isn't finished, and may run again.
func TestFail(t *testing.T) {
	table := session.New()
	finishes(t, table, 2, 2, ans(2), api.OK)
	for _, seq := range []uint32{1, 2, 3, 6, 7, most} {
		fails(t, table, 2, seq, api.OK)
	}
	starts(t, table, 2, 4, api.OK)
	for _, seq := range []uint32{1, 2, 3, 5, 6, 7, most} {
		fails(t, table, 2, seq, api.OK)
		is(t, table, 2, 4, session.Running, api.OK)
	}
	fails(t, table, 2, 4, api.OK)
	is(t, table, 2, 4, session.Fresh, api.OK)
	fails(t, table, 2, 4, api.OK)
	last(t, table, 2, 2, ans(2), api.OK)
	done(t, table, 2, 2, ans(2))
	starts(t, table, 2, 4, api.OK)
	finishes(t, table, 2, 4, ans(4), api.OK)
	fails(t, table, 2, 4, api.OK)
	done(t, table, 2, 4, ans(4))
	last(t, table, 2, 4, ans(4), api.OK)
	starts(t, table, 2, 5, api.OK)
}

// A client that there is not, and 0 as a request's number, in each call; they go ahead of all else, and change nothing.
func TestWrong(t *testing.T) {
	table := session.New()
	for client := range byte(api.MaxClients) {
		finishes(t, table, client, 2, ans(int(client)), api.OK)
		starts(t, table, client, 3, api.OK)
	}
	for _, c := range []struct {
		client byte
		seq    uint32
	}{{0, 0}, {3, 0}, {4, 0}, {4, 1}, {4, 2}, {4, 3}, {4, 7}, {5, 1}, {127, 1}, {128, 3}, {255, 1}, {255, most}} {
		for _, tab := range []*session.Table{table, nil} {
			is(t, tab, c.client, c.seq, 0, api.ErrArg)
			starts(t, tab, c.client, c.seq, api.ErrArg)
			finishes(t, tab, c.client, c.seq, ans(9), api.ErrArg)
			fails(t, tab, c.client, c.seq, api.ErrArg)
			if c.client >= api.MaxClients {
				last(t, tab, c.client, 0, api.Answer{}, api.ErrArg)
			}
		}
	}
	for client := range byte(api.MaxClients) {
		last(t, table, client, 2, ans(int(client)), api.OK)
		is(t, table, client, 3, session.Running, api.OK)
	}
}

// A nil *Table knows of no client.
func TestNil(t *testing.T) {
	var table *session.Table
	for client := range byte(api.MaxClients) {
		is(t, table, client, 1, 0, api.ErrNone)
		starts(t, table, client, 1, api.ErrNone)
		finishes(t, table, client, 1, ans(1), api.ErrNone)
		finishes(t, table, client, most, ans(1), api.ErrNone)
		fails(t, table, client, 1, api.ErrNone)
		fails(t, table, client, most, api.ErrNone)
		last(t, table, client, 0, api.Answer{}, api.ErrNone)
	}
}

// Clients know nothing of one another, nor do tables.
func TestApart(t *testing.T) {
	one, two := session.New(), session.New()
	starts(t, one, 0, 1, api.OK)
	starts(t, one, 1, 2, api.OK)
	finishes(t, one, 2, 1, ans(2), api.OK)
	fails(t, one, 1, 1, api.OK)
	fails(t, one, 3, 1, api.OK)
	finishes(t, two, 0, 7, ans(7), api.OK)
	is(t, one, 0, 1, session.Running, api.OK)
	is(t, one, 1, 1, session.Fresh, api.OK)
	is(t, one, 1, 2, session.Running, api.OK)
	done(t, one, 2, 1, ans(2))
	is(t, one, 3, 1, session.Fresh, api.OK)
	last(t, one, 0, 0, api.Answer{}, api.OK)
	last(t, one, 3, 0, api.Answer{}, api.OK)
	last(t, two, 0, 7, ans(7), api.OK)
	last(t, two, 2, 0, api.Answer{}, api.OK)
	starts(t, two, 1, 2, api.OK)
	fails(t, two, 1, 2, api.OK)
	is(t, one, 1, 2, session.Running, api.OK)
}

// The rule of memory: what is handed in is neither changed nor kept.
func TestHandedIn(t *testing.T) {
	vals := []api.Value{{Kind: api.Int, N: 5}, {Kind: api.Text, S: "r"}, {N: 9}}
	list := []uint32{3, 4, 5}
	should := api.Answer{At: 1, Vals: slices.Clone(vals[:2]), List: slices.Clone(list[:2])}
	table := session.New()
	finishes(t, table, 0, 1, api.Answer{At: 1, Vals: vals[:2], List: list[:2]}, api.OK)
	if !slices.Equal(vals, append(slices.Clone(should.Vals), api.Value{N: 9})) || !slices.Equal(list, []uint32{3, 4, 5}) {
		t.Fatalf("what was handed in has changed: %v, %v", vals, list)
	}
	clear(vals)
	clear(list)
	done(t, table, 0, 1, should)
	last(t, table, 0, 1, should, api.OK)
}

// The rule of memory: what is answered is new, its spare room too, and stays.
func TestAnswered(t *testing.T) {
	table := session.New()
	finishes(t, table, 0, 1, ans(6), api.OK)
	_, before, _ := table.Ask(0, 1)
	_, old, _ := table.Last(0)
	_, asked, _ := table.Ask(0, 1)
	_, told, _ := table.Last(0)
	for _, a := range []api.Answer{asked, told} {
		clear(a.Vals[:cap(a.Vals)])
		clear(a.List[:cap(a.List)])
		done(t, table, 0, 1, ans(6))
		last(t, table, 0, 1, ans(6), api.OK)
	}
	finishes(t, table, 0, 2, ans(7), api.OK)
	if !alike(before, ans(6)) || !alike(old, ans(6)) {
		t.Fatalf("what was answered has changed: %v, %v", before, old)
	}
}

// The rule of memory, of texts: what is kept isn't what was handed in, nor what is handed out.
func TestTextMemory(t *testing.T) {
	long := []byte("abcdefgh")
	table := session.New()
	finishes(t, table, 0, 1, api.Answer{Vals: []api.Value{{Kind: api.Text, S: unsafe.String(&long[0], len(long))}}}, api.OK)
	copy(long, "zzzzzzzz")
	should := api.Answer{Vals: []api.Value{{Kind: api.Text, S: "abcdefgh"}}}
	done(t, table, 0, 1, should)
	last(t, table, 0, 1, should, api.OK)
	_, a, _ := table.Ask(0, 1)
	_, b, _ := table.Last(0)
	if unsafe.StringData(a.Vals[0].S) == unsafe.StringData(b.Vals[0].S) {
		t.Error("two answers share a text")
	}
}
