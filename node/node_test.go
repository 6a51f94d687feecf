package node_test

import (
	"math"
	"slices"
	"testing"

	"gusset/api"
	"gusset/ghost"
	"gusset/journal"
	"gusset/node"
	"gusset/plate"
	"gusset/wire"
)

// off is a plate whose power is off.
func off(t *testing.T, pages int) *plate.Plate {
	p := plateOf(t, pages)
	p.Arm(1)
	p.Flush()
	if p.On() {
		t.Fatal("the power is on")
	}
	return p
}

// P19.1: the errors of Open, and which goes ahead.
func TestOpenErrors(t *testing.T) {
	for _, c := range []struct {
		id    byte
		nodes int
		p     *plate.Plate
		e     api.Errno
	}{
		{0, 0, plateOf(t, 64), api.ErrArg}, {0, -1, plateOf(t, 64), api.ErrArg}, {0, 5, plateOf(t, 64), api.ErrArg},
		{0, math.MinInt, plateOf(t, 64), api.ErrArg}, {0, math.MaxInt, plateOf(t, 64), api.ErrArg},
		{1, 1, plateOf(t, 64), api.ErrArg}, {4, 4, plateOf(t, 64), api.ErrArg}, {255, 4, plateOf(t, 64), api.ErrArg},
		{0, 0, nil, api.ErrArg}, {2, 2, nil, api.ErrArg}, {0, 5, off(t, 64), api.ErrArg},
		{0, 1, plateOf(t, 1), api.ErrArg}, {0, 1, plateOf(t, 7), api.ErrArg}, {0, 1, off(t, 7), api.ErrArg},
		{0, 1, nil, api.ErrNone}, {3, 4, nil, api.ErrNone},
		{0, 1, off(t, 8), api.ErrDown}, {3, 4, off(t, 64), api.ErrDown},
		{0, 1, plateOf(t, 8), api.OK}, {0, 4, plateOf(t, 64), api.OK}, {3, 4, plateOf(t, api.MaxPages), api.OK},
	} {
		n, e := node.Open(c.id, c.nodes, c.p)
		if e != c.e || (n != nil) != (e == api.OK) {
			t.Errorf("Open(%d, %d) of %d pages = %v, %v, not %v", c.id, c.nodes, c.p.Len(), n, e, c.e)
		}
		if n.Up() != (c.e == api.OK) {
			t.Errorf("Open(%d, %d): up %v", c.id, c.nodes, n.Up())
		}
	}
}

// P19.1: what is on a plate is another node's, or no node's.
func TestOpenForeign(t *testing.T) {
	p := plateOf(t, api.MaxPages)
	opened(t, 1, 3, p)
	for _, c := range []struct {
		id    byte
		nodes int
		e     api.Errno
	}{{0, 3, api.ErrForm}, {2, 3, api.ErrForm}, {1, 2, api.ErrForm}, {1, 4, api.ErrForm}, {1, 3, api.OK}} {
		if _, e := node.Open(c.id, c.nodes, p); e != c.e {
			t.Errorf("Open(%d, %d) = %v, not %v", c.id, c.nodes, e, c.e)
		}
	}
	good, _ := wire.Encode(api.Msg{Kind: api.MsgRequest})
	for _, b := range [][]byte{nil, {1}, []byte("something else"), good} {
		q := plateOf(t, 64)
		j, _, _ := journal.Open(q)
		j.Append(b)
		if n, e := node.Open(0, 1, q); e != api.ErrForm || n != nil {
			t.Errorf("Open of % x = %v, %v", b, n, e)
		}
	}
	empty := plateOf(t, 64)
	journal.Open(empty)
	opened(t, 0, 1, empty)
}

// P19.1: a plate that runs full; all that was acknowledged is there, or Open has no room.
func TestOpenFull(t *testing.T) {
	for pages := 8; pages < 40; pages++ {
		l := newLoner(t, pages, int64(pages))
		done := 0
		for v := uint32(1); v <= api.MaxVertex; v++ {
			l.seqs[0]++
			if list := l.ask(0, tx(add(v), set(v, 0, text("abcdefgh")))); len(list) == 0 {
				break
			}
			l.n.Decided()
			done++
		}
		if l.n.Up() {
			t.Fatal(pages, "pages aren't full behind", done)
		}
		if !l.p.On() || l.n.Checkpoint() != api.ErrDown || len(l.n.Handle(asked(1, 1, tx(add(1))))) > 0 {
			t.Fatal("a write has failed, and it works")
		}
		n, e := node.Open(0, 1, l.p)
		if e != api.OK && e != api.ErrFull {
			t.Fatal("Open answers", e)
		}
		if e == api.OK && len(n.Verts()) != done {
			t.Fatal("of", done, "there are", n.Verts())
		}
	}
}

// P19.2: where the node isn't up nothing is done or sent.
func TestNotUp(t *testing.T) {
	w := newWorld(t, 2, 2, 1)
	w.did(0, tx(add(1), add(2)))
	n, p := w.nodes[0], w.plates[0]
	w.call(1, tx(set(2, 0, number(1))))
	w.goes(api.MsgRequest, 1)
	lock, _ := wire.Decode(w.steal(api.MsgLock, 0))
	p.Arm(1)
	p.Flush()
	if n.Up() {
		t.Fatal("it is up without power")
	}
	p.Restart(plate.Fate{})
	for _, m := range []api.Msg{lock, asked(0, 2, tx(add(4))), {}} {
		if sent := n.Handle(m); len(sent) > 0 || n.Up() {
			t.Fatal("it isn't up, and sends", sent)
		}
	}
	if sent := n.Tick(); len(sent) > 0 || n.Checkpoint() != api.ErrDown {
		t.Fatal("it isn't up, and sends", sent)
	}
	if _, locks, runs := n.Load(); locks+runs > 0 || len(n.Decided()) > 0 {
		t.Fatal("it isn't up, and works")
	}
}

// P19.2: the power goes in the midst: what the node would send isn't sent.
func TestCutSendsNothing(t *testing.T) {
	for at := 1; at < 40; at++ {
		p := plateOf(t, api.MaxPages)
		n := opened(t, 0, 2, p)
		p.Arm(at)
		sent := n.Handle(asked(0, 1, tx(add(2), set(2, 0, number(1)))))
		if n.Up() {
			if at < 3 || len(sent) != 1 {
				t.Fatal("cut at", at, "sends", sent)
			}
			return
		}
		if len(sent) > 0 {
			t.Fatal("cut at", at, "sends", sent)
		}
	}
	t.Fatal("the power always goes")
}

// P19.2: To is the node that a message goes to; a client's answer has its number, and that of its request.
func TestSent(t *testing.T) {
	w := newWorld(t, 3, 3, 1)
	for c, n := range w.nodes {
		sent := n.Handle(asked(byte(c), 1, tx(add(1), add(2), add(3))))
		var to []byte
		for _, m := range sent {
			if int(m.From) != c {
				t.Fatal("it isn't from", c, m)
			}
			to = append(to, m.To)
		}
		slices.Sort(to)
		if want := slices.DeleteFunc([]byte{0, 1, 2}, func(i byte) bool { return int(i) == c }); !slices.Equal(to, want) {
			t.Fatal("they go to", to)
		}
	}
	n := opened(t, 0, 1, plateOf(t, 64))
	sent := n.Handle(asked(3, 1, tx(add(1), get(2, 0))))
	if want := []api.Msg{{Kind: api.MsgAnswer, Client: 3, Seq: 1, Ans: api.Answer{E: api.ErrNone, At: 1}}}; !same(sent, want) {
		t.Fatal("it sends", sent)
	}
}

// P19.3: decisions in order, each once; those that an earlier life hasn't told, too.
func TestDecided(t *testing.T) {
	w := newWorld(t, 2, 1, 1)
	n := w.nodes[0]
	var sent []api.Msg
	for seq := uint32(1); seq <= 3; seq++ {
		sent = append(sent, n.Handle(asked(0, seq, tx(add(2*seq))))...)
	}
	if len(sent) != 3 {
		t.Fatal("it sends", sent)
	}
	list := n.Decided()
	for i, d := range list {
		want := node.Decision{Tx: api.TxID{Inc: 1, Seq: uint32(i + 1)}, Seq: uint32(i + 1), Req: tx(add(2 * uint32(i+1)))}
		if len(list) != 3 || !same(d, want) {
			t.Fatal("decided", list)
		}
	}
	if again := n.Decided(); len(again) > 0 {
		t.Fatal("told twice", again)
	}
	n.Handle(asked(0, 4, tx(add(2))))
	n = opened(t, 0, 2, w.plates[0])
	list = n.Decided()
	if last := list[len(list)-1]; last.Seq != 4 || last.Ans.E != api.ErrExists || last.Tx != (api.TxID{Inc: 1, Seq: 4}) {
		t.Fatal("decided", list)
	}
	// What isn't decided isn't told, neither by its home nor by who takes part.
	w.call(0, tx(add(1)))
	w.clients[0].seq = 5
	for _, m := range n.Handle(asked(0, 5, tx(add(1), add(8)))) {
		w.nodes[1].Handle(m)
	}
	if len(n.Decided())+len(w.nodes[1].Decided()) > 0 {
		t.Fatal("told ahead of the decision")
	}
}

// P19.3: what locks a node has taken as the owner, with its entry; who stands by a move tells none.
func TestServed(t *testing.T) {
	w := newWorld(t, 2, 1, 1)
	drain := func(r api.Request) (list [2][]api.Entry) {
		w.clients[0].seq++
		sent := w.nodes[0].Handle(asked(0, w.clients[0].seq, r))
		for len(sent) > 0 {
			m := sent[0]
			sent = sent[1:]
			if m.Kind != api.MsgAnswer {
				sent = append(sent, w.nodes[m.To].Handle(m)...)
			}
		}
		for i, n := range w.nodes {
			list[i] = n.Served()
			slices.SortFunc(list[i], func(a, b api.Entry) int { return int(a.V) - int(b.V) })
		}
		return list
	}
	for _, c := range []struct {
		r    api.Request
		want [2][]api.Entry
	}{
		{tx(add(1), add(2), join(1, 2, text("")), get(1, 1)), [2][]api.Entry{{{V: 2}}, {{V: 1, Owner: 1}}}},
		{tx(get(2, 0), get(4, 0)), [2][]api.Entry{{{V: 2}, {V: 4}}}},
		{tx(), [2][]api.Entry{}},
		{move(1, 0), [2][]api.Entry{nil, {{V: 1, Owner: 1}}}},
		{tx(set(1, 0, number(1))), [2][]api.Entry{{{V: 1, Owner: 0, Epoch: 1}}}},
		{hops(1, 2), [2][]api.Entry{{{V: 1, Owner: 0, Epoch: 1}, {V: 2}}}},
		{move(1, 1), [2][]api.Entry{{{V: 1, Owner: 0, Epoch: 1}}}},
		{hops(2, 0), [2][]api.Entry{{{V: 2}}}},
		{move(7, 1), [2][]api.Entry{nil, {{V: 7, Owner: 1}}}},
		{hops(2, 2), [2][]api.Entry{{{V: 2}}, {{V: 1, Owner: 1, Epoch: 2}}}},
	} {
		if got := drain(c.r); !same(got, c.want) {
			t.Errorf("%v: served %v, not %v", c.r, got, c.want)
		}
		if c.r.Kind != api.ReqHops {
			continue
		}
		if got := drain(c.r); !same(got, c.want) {
			t.Errorf("%v again: served %v, not %v", c.r, got, c.want)
		}
	}
}

// P19.4: what is held, in order, its ghosts, and the entries; examples 7 and 8.
func TestHeld(t *testing.T) {
	w := newWorld(t, 3, 1, 1)
	w.did(0, tx(add(7), add(4), add(1), add(2), set(4, 2, number(4)), set(4, 1, text("a"))))
	w.did(0, tx(join(1, 2, text("x")), join(7, 2, api.Value{}), join(7, 4, number(1))))
	one := []api.Half{{Far: 2, Val: text("x")}}
	if got, want := w.nodes[1].Verts(), []api.Vertex{
		{ID: 1, There: true, Halves: one},
		{ID: 4, There: true, Props: []api.Prop{{Key: 1, Val: text("a")}, {Key: 2, Val: number(4)}}, Halves: []api.Half{{Far: 7, Val: number(1)}}},
		{ID: 7, There: true, Halves: []api.Half{{Far: 2}, {Far: 4, Val: number(1)}}},
	}; !same(got, want) {
		t.Fatal("node 1 holds", got)
	}
	if got := w.nodes[1].Ghosts(); !slices.Equal(got, []ghost.Ghost{{V: 2, N: 2}}) {
		t.Fatal("ghosts of 1", got)
	}
	if got := w.nodes[2].Ghosts(); !slices.Equal(got, []ghost.Ghost{{V: 1, N: 1}, {V: 7, N: 1}}) {
		t.Fatal("ghosts of 2", got)
	}
	if len(w.nodes[0].Verts())+len(w.nodes[0].Ghosts())+len(w.nodes[0].Dirs()) > 0 {
		t.Fatal("node 0 has something")
	}
	w.did(0, move(7, 2))
	w.did(0, move(1, 0))
	w.did(0, move(1, 2))
	want := []api.Entry{{V: 1, Owner: 2, Epoch: 2}, {V: 7, Owner: 2, Epoch: 1}}
	for i := range 3 {
		for range 2 {
			if got := w.nodes[i].Dirs(); !slices.Equal(got, want) {
				t.Fatal("dirs of", i, got)
			}
			w.reopen(i)
		}
	}
	if got := w.nodes[2].Ghosts(); !slices.Equal(got, []ghost.Ghost{{V: 4, N: 1}}) {
		t.Fatal("ghosts of 2", got)
	}
	w.checkPlain()
}

// P19.4: how many locks there are, and what is run.
func TestLoad(t *testing.T) {
	w := newWorld(t, 2, 2, 1)
	w.call(0, tx(add(1), add(2), get(4, 0), get(3, 0)))
	w.goes(api.MsgRequest, 0)
	w.is(0, 0, 2, 1)
	w.goes(api.MsgLock, 1)
	w.is(1, 0, 2, 0)
	w.goes(api.MsgGranted, 0)
	w.is(0, 0, 2, 1)
	w.goes(api.MsgPrepare, 1)
	w.is(1, 1, 2, 0)
	w.goes(api.MsgYes, 0)
	w.is(0, 0, 0, 1)
	if len(w.commits) != 1 {
		t.Fatal("it isn't committed")
	}
	w.reopen(0)
	w.is(0, 0, 0, 1)
	w.goes(api.MsgCommit, 1)
	w.is(1, 0, 0, 0)
	w.goes(api.MsgDone, 0)
	w.is(0, 0, 0, 0)
	w.reopen(0)
	w.is(0, 0, 0, 0)
}

// P19.5: a Checkpoint is short, and all is there behind it; its errors.
func TestCheckpoint(t *testing.T) {
	l := newLoner(t, 2000, 1)
	for range 60 {
		l.does(l.request(5))
	}
	_, long, _ := journal.Open(l.p)
	if e := l.n.Checkpoint(); e != api.OK || !l.n.Up() {
		t.Fatal("checkpoint", e)
	}
	_, short, _ := journal.Open(l.p)
	if len(long) < 60 || len(short) > 8 {
		t.Fatal("from", len(long), "to", len(short), "records")
	}
	l.does(l.request(5))
	l.again()
	holds(t, l.n, l.g)
	var none *node.Node
	if e := none.Checkpoint(); e != api.ErrNone {
		t.Fatal("checkpoint of none", e)
	}
	l.p.Arm(1)
	if e := l.n.Checkpoint(); e != api.ErrDown || l.n.Up() {
		t.Fatal("checkpoint without power", e)
	}
	l.p.Restart(plate.Fate{})
	if e := l.n.Checkpoint(); e != api.ErrDown {
		t.Fatal("checkpoint of one that isn't up", e)
	}
}

// P19.5: where there is no room for a Checkpoint nothing has changed, and the node works.
func TestCheckpointFull(t *testing.T) {
	full := 0
	for at := range 40 * 20 {
		pages, k := 8+at%40, 1+at/40
		l := newLoner(t, pages, 1)
		for range k {
			// What isn't told must be laid down anew, and each client's last answer with it: that is longer.
			client := byte(l.Intn(api.MaxClients))
			l.seqs[client]++
			l.ask(client, tx(get(1, 0), get(2, 0), get(3, 0)))
		}
		if !l.n.Up() {
			continue
		}
		e := l.n.Checkpoint()
		if e != api.OK && e != api.ErrFull || !l.n.Up() {
			t.Fatal("checkpoint", e, l.n.Up())
		}
		n, opens := node.Open(0, 1, l.p)
		if e != api.ErrFull || opens != api.OK {
			continue
		}
		full++
		if list := n.Decided(); len(list) != k || !same(list, l.n.Decided()) {
			t.Fatal("of", k, "requests it tells", list)
		}
	}
	if full == 0 {
		t.Fatal("there is always room")
	}
}

// A nil node: nothing.
func TestNil(t *testing.T) {
	var n *node.Node
	if n.Handle(asked(0, 1, tx(add(1)))) != nil || n.Tick() != nil || n.Up() || n.Decided() != nil || n.Served() != nil {
		t.Fatal("a nil node does something")
	}
	if n.Verts() != nil || n.Ghosts() != nil || n.Dirs() != nil || n.Doubt(1) {
		t.Fatal("a nil node has something")
	}
	if doubts, locks, runs := n.Load(); doubts+locks+runs > 0 {
		t.Fatal("a nil node has something under way")
	}
}
