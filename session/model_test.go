package session_test

import (
	"math/rand"
	"testing"

	"gusset/api"
	"gusset/session"
)

// event is one thing that is told of a client's request.
type event struct {
	what string
	seq  uint32
	a    api.Answer
}

// log is the events of one client that were no errors; all that is known of it is told by going through them.
type log []event

// last is the one that was finished last.
func (l log) last() event {
	var last event
	for _, e := range l {
		if e.what == "finish" && e.seq > last.seq {
			last = e
		}
	}
	return last
}

// runs tells whether the request is running: it was started, and behind that neither failed nor finished, nor was a later one.
func (l log) runs(seq uint32) bool {
	runs := false
	for _, e := range l {
		switch {
		case e.what == "start" && e.seq == seq:
			runs = true
		case e.what == "fail" && e.seq == seq, e.what == "finish" && e.seq >= seq:
			runs = false
		}
	}
	return runs
}

// busy tells whether any request is running.
func (l log) busy() bool {
	for _, e := range l {
		if l.runs(e.seq) {
			return true
		}
	}
	return false
}

// far tells whether the request is too far ahead.
func (l log) far(seq uint32) bool { return uint64(seq) > uint64(l.last().seq)+4 }

// fault is the error that the event answers.
func (l log) fault(e event) api.Errno {
	switch {
	case e.seq == 0:
		return api.ErrArg
	case e.what == "fail":
		return api.OK
	case e.what == "start" && l.far(e.seq):
		return api.ErrRange
	case e.seq <= l.last().seq:
		return api.ErrState
	case e.what == "start" && l.busy():
		return api.ErrBusy
	}
	return api.OK
}

// does tells the table the event of the client, and the log too, and holds the answers against each other.
func does(t *testing.T, table *session.Table, client byte, l *log, e event) {
	t.Helper()
	should := l.fault(e)
	switch e.what {
	case "start":
		starts(t, table, client, e.seq, should)
	case "finish":
		finishes(t, table, client, e.seq, e.a, should)
	case "fail":
		fails(t, table, client, e.seq, should)
	}
	if should == api.OK {
		*l = append(*l, e)
	}
}

// same holds all that the table tells of the client against the log, in the requests of that many numbers from one on.
func same(t *testing.T, table *session.Table, client byte, l log, from, many uint32) {
	t.Helper()
	z := l.last()
	last(t, table, client, z.seq, z.a, api.OK)
	for i := range many {
		switch seq := from + i; {
		case seq == 0:
			is(t, table, client, seq, 0, api.ErrArg)
		case l.far(seq):
			is(t, table, client, seq, 0, api.ErrRange)
		case seq < z.seq:
			is(t, table, client, seq, 0, api.ErrStale)
		case seq == z.seq:
			done(t, table, client, seq, z.a)
		case l.runs(seq):
			is(t, table, client, seq, session.Running, api.OK)
		default:
			is(t, table, client, seq, session.Fresh, api.OK)
		}
	}
}

// P15.1, P15.2: all ways in which a client's first requests may go in some steps.
func TestAllWays(t *testing.T) {
	var all []event
	for _, what := range []string{"start", "finish", "fail"} {
		for seq := range uint32(6) {
			all = append(all, event{what, seq + 1, ans(int(seq) + len(what))})
		}
	}
	const steps = 4
	ways := 1
	for range steps {
		ways *= len(all)
	}
	for way := range ways {
		table, l := session.New(), log(nil)
		for range steps {
			does(t, table, 1, &l, all[way%len(all)])
			way /= len(all)
		}
		same(t, table, 1, l, 0, 12)
	}
}

// P15.1, P15.2: steps by chance of all clients, near the first number, in the midst and near the greatest one.
func TestByChance(t *testing.T) {
	words := []string{"start", "start", "start", "finish", "finish", "fail"}
	for seed := range int64(300) {
		r := rand.New(rand.NewSource(seed))
		table := session.New()
		var logs [api.MaxClients]log
		var bases [api.MaxClients]uint32
		for client := range logs {
			if base := []uint32{0, 0, 1000, most - 20, most - 7}[r.Intn(5)]; base != 0 {
				does(t, table, byte(client), &logs[client], event{"finish", base, ans(client)})
				bases[client] = base - 3
			}
		}
		for n := range 60 {
			client := r.Intn(api.MaxClients)
			l := &logs[client]
			// It wraps round to the first numbers, which are stale then.
			e := event{words[r.Intn(len(words))], bases[client] + uint32(r.Intn(20)), ans(n)}
			if near := l.last().seq; r.Intn(2) == 0 {
				e.seq = near + uint32(r.Intn(7))
			}
			does(t, table, byte(client), l, e)
			for client := range logs {
				same(t, table, byte(client), logs[client], logs[client].last().seq-3, 10)
			}
		}
	}
}
