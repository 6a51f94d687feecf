package node_test

import (
	"math"
	"math/rand"
	"slices"
	"testing"

	"gusset/api"
	"gusset/journal"
	"gusset/node"
	"gusset/wire"
)

// chance makes messages by chance: what stands in them may be anything, but is often near to what could stand there.
type chance struct{ *rand.Rand }

func (c chance) number() uint64 {
	edges := []uint64{0, 1, 2, 3, 4, 40, 41, 255, 256, math.MaxUint32, math.MaxInt64, 1 << 60, math.MaxUint64, 1<<32 | 1, 2<<32 | 1}
	switch c.Intn(3) {
	case 0:
		return edges[c.Intn(len(edges))]
	case 1:
		return c.Uint64() >> c.Intn(64)
	}
	return uint64(c.Intn(5))
}

func (c chance) small() uint32 { return uint32(c.number()) }

func (c chance) octet() byte { return byte(c.number()) }

func (c chance) value() api.Value {
	switch c.Intn(4) {
	case 0:
		return api.Value{}
	case 1:
		return number(int64(c.number()))
	case 2:
		return text("abc")
	}
	return api.Value{Kind: c.octet(), N: int64(c.number()), S: "A?"}
}

// some is up to most things of a kind.
func some[E any](c chance, most int, one func() E) []E {
	var list []E
	for range min(c.Intn(most+1), c.Intn(most+1)) {
		list = append(list, one())
	}
	return list
}

func (c chance) vertex() api.Vertex {
	return api.Vertex{
		ID: c.small(), There: c.Intn(3) > 0,
		Props:  some(c, 2, func() api.Prop { return api.Prop{Key: c.octet(), Val: c.value()} }),
		Halves: some(c, 3, func() api.Half { return api.Half{Far: c.small(), Val: c.value()} }),
	}
}

func (c chance) request() api.Request {
	return api.Request{
		Kind: c.octet(), V: c.small(), K: int(c.number()), To: int(c.number()),
		Ops: some(c, 8, func() api.Op {
			return api.Op{Kind: c.octet(), A: c.small(), B: c.small(), Key: c.octet(), Val: c.value()}
		}),
	}
}

func (c chance) message() api.Msg {
	m := api.Msg{
		Kind: byte(c.Intn(17)), From: c.octet(), To: c.octet(), Age: c.number(), Inc: c.small(),
		Tx:     api.TxID{Node: c.octet(), Inc: c.small(), Seq: c.small()},
		Client: c.octet(), Seq: c.small(),
		Ans:   api.Answer{E: api.Errno(c.number()), At: int(c.number()), Vals: some(c, 7, c.value), List: some(c, 50, c.small)},
		Wants: some(c, 50, func() api.Want { return api.Want{V: c.small(), Mode: c.octet()} }),
		Verts: some(c, 14, c.vertex),
		Dirs:  some(c, 5, func() api.Entry { return api.Entry{V: c.small(), Owner: c.octet(), Epoch: c.small()} }),
		Nodes: some(c, 5, c.octet),
		Num:   c.number(), Credit: c.number(), Hops: int(c.number()),
	}
	if m.Kind == api.MsgRequest || c.Intn(8) == 0 {
		m.Req = c.request()
	}
	if c.Intn(2) == 0 {
		m.From = m.Tx.Node
	}
	return m
}

// look asks a node for all that it tells.
func look(n *node.Node) {
	n.Decided()
	n.Served()
	n.Verts()
	n.Ghosts()
	n.Dirs()
	n.Load()
	for v := range uint32(api.MaxVertex + 2) {
		n.Doubt(v)
	}
	n.Doubt(math.MaxUint32)
}

// P1: whatever comes, no call panics, and each ends; what the node has laid down then it opens again.
func TestAnyMessage(t *testing.T) {
	inParallel(t, 64, func(t *testing.T, seed int64) {
		c := chance{rand.New(rand.NewSource(seed))}
		w := newWorld(t, 1+int(seed)%4, 2, seed)
		id := c.Intn(len(w.nodes))
		n := w.nodes[id]
		for range 3000 {
			switch k := c.Intn(100); {
			case k < 90:
				n.Handle(c.message())
			case k < 93:
				for _, m := range n.Tick() {
					// What it sent comes back to it, as if another one had sent it.
					m.From, m.Inc = c.octet(), c.small()
					n.Handle(m)
				}
			case k < 95:
				look(n)
			case k < 97:
				n.Handle(asked(byte(c.Intn(4)), uint32(c.Intn(20)), w.request(6)))
			case k < 98:
				n.Checkpoint()
			default:
				n = opened(t, byte(id), len(w.nodes), w.plates[id])
			}
			if !n.Up() {
				t.Fatal("it isn't up any more")
			}
		}
	})
}

// P19.6: whatever else comes, a node alone answers as a graph.
func TestAloneAmongNoise(t *testing.T) {
	inParallel(t, 32, func(t *testing.T, seed int64) {
		l := newLoner(t, api.MaxPages, seed)
		c := chance{l.Rand}
		for range 60 {
			for range 40 {
				m := c.message()
				if m.Kind == api.MsgRequest {
					m.Seq = 0
				}
				if sent := l.n.Handle(m); len(sent) > 0 {
					t.Fatal(m, "sends", sent)
				}
			}
			idle(t, l.n)
			l.does(l.request(5))
			holds(t, l.n, l.g)
		}
	})
}

// P3, P5: old messages, changed in what they say of themselves, do no harm among three nodes that is more than that
// something is given up: what is done is done wholly.
func TestMangled(t *testing.T) {
	inParallel(t, 64, func(t *testing.T, seed int64) {
		w := newWorld(t, 3, 2, seed)
		c := chance{w.Rand}
		w.fill(5)
		for range 300 {
			if client := w.Intn(2); !w.clients[client].open {
				w.call(client, w.request(5))
			}
			if len(w.bag) == 0 {
				continue
			}
			p := w.bag[w.Intn(len(w.bag))]
			m, _ := wire.Decode(p)
			if m.Kind == api.MsgLock || m.Kind == api.MsgQuery {
				m.Tx.Seq += 1 + c.small()%1000
				if n := w.nodes[m.To]; n != nil {
					w.behind(int(m.To), n.Handle(m))
				}
			}
			w.deliver(w.take(0))
		}
		w.settle()
	})
}

// P1, P19.1: whatever records a journal has, Open ends: it answers a node that works, or ErrForm.
func TestAnyRecords(t *testing.T) {
	inParallel(t, 64, func(t *testing.T, seed int64) {
		c := chance{rand.New(rand.NewSource(seed))}
		w := newWorld(t, 3, 3, seed)
		for range 200 {
			w.step(5, lossy)
		}
		var records [][]byte
		for _, p := range w.plates {
			_, list, _ := journal.Open(p)
			records = append(records, list...)
		}
		opens := 0
		for range 60 {
			p := plateOf(t, 4000)
			j, _, _ := journal.Open(p)
			list := slices.Clone(records)
			if c.Intn(2) == 0 {
				_, list, _ = journal.Open(w.plates[0])
			}
			for i := range list {
				if c.Intn(len(list)) < 2 {
					list[i] = c.spoilt(list[i], records)
				}
			}
			for _, b := range list {
				j.Append(b)
			}
			n, e := node.Open(0, 3, p)
			if e != api.OK && e != api.ErrForm {
				t.Fatal("Open answers", e)
			}
			if e == api.OK {
				opens++
				look(n)
				n.Handle(asked(0, 100, tx(add(3))))
				n.Tick()
				if e := n.Checkpoint(); e != api.OK {
					t.Fatal("checkpoint", e)
				}
				opened(t, 0, 3, p)
			}
		}
		if opens == 0 || opens == 60 {
			t.Error("of 60 were opened", opens)
		}
	})
}

// spoilt is a record that could stand in the place of p, or couldn't.
func (c chance) spoilt(p []byte, all [][]byte) []byte {
	switch c.Intn(4) {
	case 0:
		return all[c.Intn(len(all))]
	case 1:
		m := c.message()
		m.Kind = byte(1 + c.Intn(9))
		if b, e := wire.Encode(m); e == api.OK && len(b) <= api.MaxBytes {
			return b
		}
	case 2:
		m, _ := wire.Decode(p)
		other := c.message()
		switch c.Intn(6) {
		case 0:
			m.Tx = other.Tx
		case 1:
			m.Wants = other.Wants
		case 2:
			m.Verts = other.Verts
		case 3:
			m.Dirs = other.Dirs
		case 4:
			m.Nodes = other.Nodes
		case 5:
			m.Client, m.Seq, m.Inc, m.Age = other.Client, other.Seq, other.Inc, other.Age
		}
		if b, e := wire.Encode(m); e == api.OK {
			return b
		}
	}
	p = slices.Clone(p)
	if len(p) > 0 {
		p[c.Intn(len(p))] ^= 1 << c.Intn(8)
	}
	return p
}

// P1: what nobody could have sent is passed over, or something is given up for it.
func TestForged(t *testing.T) {
	w := newWorld(t, 3, 1, 1)
	w.did(0, tx(add(1), add(2)))
	w.call(0, tx(set(1, 0, number(1)), get(3, 0)))
	w.goes(api.MsgRequest, 0)
	n := w.nodes[0]
	its := api.TxID{Node: 0, Inc: 1, Seq: 2}
	for kind := range byte(16) {
		for _, m := range []api.Msg{
			{Kind: kind, From: 0, Tx: its}, {Kind: kind, From: 3, Tx: its}, {Kind: kind, From: 255, Tx: its},
			{Kind: kind, From: 1, Tx: api.TxID{Node: 3, Inc: 1, Seq: 2}}, {Kind: kind, From: 1, Tx: api.TxID{Inc: 2, Seq: 2}},
			{Kind: kind, From: 1, Tx: api.TxID{Node: 2, Inc: 1, Seq: 9}, Wants: []api.Want{{V: 6, Mode: api.Shared}}},
		} {
			if m.Kind == api.MsgFrontier && m.Wants != nil {
				continue
			}
			if sent := n.Handle(m); len(sent) > 0 || w.under(0) != [3]int{0, 1, 1} {
				w.fatal(m, "sends", sent, w.under(0))
			}
		}
	}
	for _, e := range []api.Errno{api.OK, api.ErrNone, 99, -1} {
		w.drain()
		w.call(0, tx(get(1, 0)))
		w.goes(api.MsgRequest, 0)
		its.Seq++
		w.behind(0, n.Handle(api.Msg{Kind: api.MsgRefused, From: 1, Tx: its, Ans: api.Answer{E: e}}))
		w.drain()
		w.answers(0, api.ErrAborted)
		w.checkPlain()
	}
}

// P5: a move for which the nodes don't know of one owner is given up.
func TestForgedEntries(t *testing.T) {
	for _, dirs := range [][]api.Entry{nil, {{V: 1, Owner: 1, Epoch: 1}}, {{V: 1, Owner: 0}}, {{V: 1, Owner: 1}, {V: 1, Owner: 1}}} {
		w := newWorld(t, 2, 1, 1)
		w.did(0, tx(add(1)))
		w.call(0, move(1, 0))
		w.goes(api.MsgRequest, 0)
		w.goes(api.MsgLock, 1)
		m, _ := wire.Decode(w.steal(api.MsgGranted, 0))
		m.Dirs = dirs
		w.behind(0, w.nodes[0].Handle(m))
		w.drain()
		w.answers(0, api.ErrAborted)
		w.checkPlain()
	}
}

// P1: votes are asked for that can't be given.
func TestForgedPrepare(t *testing.T) {
	w := newWorld(t, 2, 1, 1)
	w.did(0, tx(add(1), add(3)))
	n := w.nodes[1]
	vertex := func(v uint32) api.Vertex { return api.Vertex{ID: v, There: true} }
	for seq, m := range []api.Msg{
		{Verts: []api.Vertex{vertex(3)}}, {Verts: []api.Vertex{vertex(2)}}, {Verts: []api.Vertex{vertex(0)}},
		{Verts: []api.Vertex{vertex(1), {ID: 1, Halves: []api.Half{{Far: 2}}}}},
		{Dirs: []api.Entry{{V: 3, Owner: 0, Epoch: 1}}}, {Dirs: []api.Entry{{V: 1, Owner: 2, Epoch: 1}}},
		{Dirs: []api.Entry{{V: 1, Owner: 0}}},
		{Dirs: []api.Entry{{V: 77, Owner: 0, Epoch: 1}}}, {Inc: 7},
	} {
		its := api.TxID{Node: 0, Inc: 1, Seq: uint32(100 + seq)}
		wants := []api.Want{{V: 1, Mode: api.Exclusive}, {V: 3, Mode: api.Shared}}
		if sent := n.Handle(api.Msg{Kind: api.MsgLock, Tx: its, Wants: wants}); len(sent) != 1 || sent[0].Kind != api.MsgGranted {
			t.Fatal("it sends", sent)
		}
		m.Kind, m.Tx, m.Inc = api.MsgPrepare, its, m.Inc+1
		for range 2 {
			if sent := n.Handle(m); len(sent) != 1 || sent[0].Kind != api.MsgNo || w.under(1) != [3]int{} || !n.Up() {
				t.Fatal(m, "sends", sent, w.under(1))
			}
		}
	}
	w.checkPlain()
	opened(t, 1, 2, w.plates[1])
}

// P1: a traversal that wants what none wants, and one that is to be ready while it waits.
func TestForgedFrontier(t *testing.T) {
	w := newWorld(t, 2, 1, 1)
	w.did(0, tx(add(1), add(3), join(1, 3, api.Value{})))
	n := w.nodes[1]
	its := api.TxID{Node: 0, Inc: 1, Seq: 100}
	come := func(seq uint32, num uint64, hops int, credit uint64, wants ...api.Want) []api.Msg {
		its.Seq = seq
		return n.Handle(api.Msg{Kind: api.MsgFrontier, Tx: its, Age: 5, Num: num, Hops: hops, Credit: credit, Wants: wants})
	}
	come(100, 1, 2, 100, api.Want{V: 1, Mode: api.Exclusive})
	come(100, 2, 2, 100, api.Want{V: 1, Mode: api.Shared}, api.Want{V: 1, Mode: api.Exclusive}, api.Want{V: 1, Mode: 9})
	w.is(1, 0, 2, 0)
	come(100, 3, 9, 100, api.Want{V: 1})
	come(100, 4, -1, 100, api.Want{V: 1})
	come(100, 5, 1, 100)
	w.is(1, 0, 2, 0)
	if sent := come(100, 6, 8, 0, api.Want{V: 1}); len(sent) != 1 || sent[0].Kind != api.MsgRefused {
		t.Fatal("without credit it sends", sent)
	}
	w.is(1, 0, 0, 0)
	if sent := come(101, 7, 1, 100, api.Want{V: 41}, api.Want{V: 0}); len(sent) > 0 {
		t.Fatal("of no vertices it sends", sent)
	}
	if sent := come(102, 8, 1, 100, api.Want{V: 2}); len(sent) != 1 || sent[0].Kind != api.MsgRefused {
		t.Fatal("of another's vertex it sends", sent)
	}
	come(103, 9, 1, 100, api.Want{V: 1})
	n.Handle(api.Msg{Kind: api.MsgLock, Tx: api.TxID{Inc: 1, Seq: 104}, Age: 1, Wants: []api.Want{{V: 3, Mode: api.Exclusive}}})
	if sent := come(103, 10, 1, 100, api.Want{V: 3}); len(sent) > 0 {
		t.Fatal("it waits, and sends", sent)
	}
	sent := n.Handle(api.Msg{Kind: api.MsgPrepare, Tx: its, Inc: 1})
	if len(sent) != 1 || sent[0].Kind != api.MsgNo {
		t.Fatal("it waits, and sends", sent)
	}
	w.is(1, 0, 1, 0)
}

// P1: messages that are too long for anybody to have sent them end at once, and nothing has happened.
func TestLong(t *testing.T) {
	w := newWorld(t, 2, 1, 1)
	w.did(0, tx(add(1), add(2)))
	w.call(0, hops(2, 3))
	var wants []api.Want
	var list []uint32
	for v := range uint32(300000) {
		wants, list = append(wants, api.Want{V: 2 * v, Mode: api.Shared}), append(list, 2*v)
	}
	for kind := range byte(16) {
		for _, m := range []api.Msg{
			{Wants: wants}, {Ans: api.Answer{List: list}}, {Verts: make([]api.Vertex, 13)}, {Dirs: make([]api.Entry, 5)},
			{Nodes: make([]byte, 5)}, {Ans: api.Answer{Vals: []api.Value{{Kind: 9}}}},
		} {
			m.Kind, m.From, m.Tx = kind, 0, api.TxID{Node: 0, Inc: 1, Seq: 9}
			m.Nodes, m.Hops, m.Credit = append(m.Nodes, 0), 3, 1000
			if sent := w.nodes[1].Handle(m); len(sent) > 0 {
				t.Fatal(kind, "sends", sent)
			}
		}
	}
	w.settle()
	sent := w.nodes[0].Handle(asked(0, 3, tx(make([]api.Op, 300000)...)))
	if len(sent) != 1 || sent[0].Ans.E != api.ErrLong {
		t.Fatal("it sends", len(sent), "messages, or another answer")
	}
}
