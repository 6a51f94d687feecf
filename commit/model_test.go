package commit_test

import (
	"math/rand"
	"slices"
	"testing"

	"gusset/api"
	"gusset/commit"
)

// event is one thing that is told of a transaction, which is run or in which the node takes part.
type event struct {
	what string
	node byte
	s    int
}

// log is the events of one transaction that were no errors; all that is known of it is told by going through them.
type log struct {
	nodes  []byte // in their order; none: it isn't run
	events []event
}

// has tells whether the event has happened.
func (l *log) has(e event) bool { return slices.Contains(l.events, e) }

// all tells whether each node has done so.
func (l *log) all(what string) bool { return len(l.missing(what)) == 0 }

// missing is the nodes that haven't, rising.
func (l *log) missing(what string) []byte {
	var list []byte
	for node := range byte(api.MaxNodes) {
		if slices.Contains(l.nodes, node) && !l.has(event{what, node, 0}) {
			list = append(list, node)
		}
	}
	return list
}

// runs is how it stands.
func (l *log) runs() int {
	if len(l.nodes) == 0 {
		return commit.Unknown
	}
	for _, e := range l.events {
		switch e.what {
		case "no":
			return commit.Aborted
		case "commit":
			return commit.Committed
		}
	}
	return commit.Open
}

// owing is who owes something.
func (l *log) owing() []byte {
	switch l.runs() {
	case commit.Open:
		return l.missing("yes")
	case commit.Committed:
		return l.missing("applied")
	}
	return nil
}

// stands is how that stands in which it takes part.
func (l *log) stands() int {
	s := commit.Unknown
	for _, e := range l.events {
		switch e.what {
		case "take":
			s = commit.Held
		case "settle":
			s = e.s
		}
	}
	return s
}

// fault is the error that the event answers.
func (l *log) fault(e event) api.Errno {
	stands, mine := l.runs(), slices.Contains(l.nodes, e.node)
	switch e.what {
	case "take":
		if l.stands() != commit.Unknown {
			return api.ErrExists
		}
		return api.OK
	case "settle":
		switch now := l.stands(); {
		case e.s != commit.Committed && e.s != commit.Aborted:
			return api.ErrArg
		case now == commit.Unknown:
			return api.ErrNone
		case now != commit.Held && now != e.s:
			return api.ErrState
		}
		return api.OK
	}
	if stands == commit.Unknown {
		return api.ErrNone
	}
	if e.what != "commit" && !mine {
		return api.ErrArg
	}
	wrong := false
	switch e.what {
	case "yes":
		wrong = stands != commit.Open && !l.has(e)
	case "no":
		wrong = stands != commit.Open
	case "commit":
		wrong = stands == commit.Aborted || !l.all("yes")
	case "applied":
		wrong = stands != commit.Committed
	}
	if wrong {
		return api.ErrState
	}
	return api.OK
}

// does tells the book the event, and the log too, and holds the answers against each other.
func does(t *testing.T, b *commit.Book, tx api.TxID, l *log, e event) {
	t.Helper()
	should := l.fault(e)
	if should == api.OK {
		l.events = append(l.events, e)
	}
	switch e.what {
	case "yes", "no":
		stands := 0
		if should == api.OK {
			stands = l.runs()
		}
		if stands == commit.Open && l.all("yes") {
			stands = commit.Committed
		}
		votes(t, b, tx, e.node, e.what == "yes", stands, should)
	case "commit":
		commits(t, b, tx, should)
	case "applied":
		applies(t, b, tx, e.node, should == api.OK && l.all("applied"), should)
	case "take":
		takes(t, b, tx, should)
	case "settle":
		settles(t, b, tx, e.s, should, l.stands())
	}
}

// P14.1, P14.2: all ways in which a transaction of two nodes may go in some steps.
func TestAllWays(t *testing.T) {
	var all []event
	for _, what := range []string{"yes", "no", "applied"} {
		for _, node := range []byte{0, 2, 3} {
			all = append(all, event{what: what, node: node})
		}
	}
	all = append(all, event{what: "commit"})
	const steps = 5
	ways := 1
	for range steps {
		ways *= len(all)
	}
	for way := range ways {
		b, l := commit.New(), &log{nodes: []byte{2, 0}}
		begins(t, b, t1, api.OK, 2, 0)
		for range steps {
			does(t, b, t1, l, all[way%len(all)])
			runs(t, b, t1, l.runs(), l.owing()...)
			way /= len(all)
		}
	}
}

// someNodes is nodes by chance, seldom none or wrong ones, and the error that Begin answers for them.
func someNodes(r *rand.Rand) ([]byte, api.Errno) {
	var nodes []byte
	for _, node := range r.Perm(api.MaxNodes)[:1+r.Intn(api.MaxNodes)] {
		nodes = append(nodes, byte(node))
	}
	switch r.Intn(8) {
	case 0:
		return nil, api.ErrArg
	case 1:
		return append(nodes, byte(4+r.Intn(252))), api.ErrArg
	case 2:
		if len(nodes) < api.MaxNodes {
			return append(nodes, nodes[0]), api.ErrForm
		}
		return append(nodes, nodes[0]), api.ErrArg
	}
	return nodes, api.OK
}

// P14.1 to P14.3: steps by chance of many transactions, whose names are near one another; most of them votes with yes.
func TestByChance(t *testing.T) {
	words := []string{"yes", "yes", "yes", "yes", "yes", "no", "commit", "applied", "applied", "applied", "take", "settle", "begin"}
	for seed := range int64(100) {
		r := rand.New(rand.NewSource(seed))
		b := commit.New()
		var all []api.TxID // rising
		for i := range 8 {
			all = append(all, api.TxID{Node: byte(i / 4), Inc: uint32(i / 2 % 2), Seq: uint32(i % 2)})
		}
		logs := make([]log, len(all))
		for range 300 {
			i := r.Intn(len(all))
			l := &logs[i]
			if e := (event{what: words[r.Intn(len(words))]}); e.what != "begin" {
				switch e.what {
				case "settle":
					e.s = r.Intn(6)
				case "yes", "no", "applied":
					e.node = byte(r.Intn(api.MaxNodes + 1))
				}
				does(t, b, all[i], l, e)
			} else {
				nodes, should := someNodes(r)
				if should == api.OK && len(l.nodes) > 0 {
					should = api.ErrExists
				}
				begins(t, b, all[i], should, nodes...)
				if should == api.OK {
					l.nodes = nodes
				}
			}
			var doubt []api.TxID
			for i, tx := range all {
				runs(t, b, tx, logs[i].runs(), logs[i].owing()...)
				if stands := logs[i].stands(); b.Stands(tx) != stands {
					t.Fatalf("Stands(%v) = %d, not %d", tx, b.Stands(tx), stands)
				}
				if logs[i].stands() == commit.Held {
					doubt = append(doubt, tx)
				}
			}
			doubts(t, b, doubt...)
		}
	}
}
