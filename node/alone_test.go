package node_test

import (
	"math/rand"
	"testing"

	"gusset/api"
	"gusset/graph"
	"gusset/node"
	"gusset/plate"
)

// The examples' operations.
func add(a uint32) api.Op { return api.Op{Kind: api.OpAdd, A: a} }

func del(a uint32) api.Op { return api.Op{Kind: api.OpDel, A: a} }

func set(a uint32, key byte, v api.Value) api.Op {
	return api.Op{Kind: api.OpSet, A: a, Key: key, Val: v}
}

func get(a uint32, key byte) api.Op { return api.Op{Kind: api.OpGet, A: a, Key: key} }

func join(a, b uint32, v api.Value) api.Op { return api.Op{Kind: api.OpJoin, A: a, B: b, Val: v} }

func number(n int64) api.Value { return api.Value{Kind: api.Int, N: n} }

func text(s string) api.Value { return api.Value{Kind: api.Text, S: s} }

func tx(ops ...api.Op) api.Request { return api.Request{Kind: api.ReqTx, Ops: ops} }

func hops(v uint32, k int) api.Request { return api.Request{Kind: api.ReqHops, V: v, K: k} }

func move(v uint32, to int) api.Request { return api.Request{Kind: api.ReqMove, V: v, To: to} }

func asked(client byte, seq uint32, r api.Request) api.Msg {
	return api.Msg{Kind: api.MsgRequest, From: client, Client: client, Seq: seq, Req: r}
}

// plateOf is a new plate of so many pages.
func plateOf(t testing.TB, pages int) *plate.Plate {
	t.Helper()
	p, e := plate.New(pages)
	if e != api.OK {
		t.Fatal(e)
	}
	return p
}

// opened is a node that must be opened.
func opened(t testing.TB, id byte, nodes int, p *plate.Plate) *node.Node {
	t.Helper()
	n, e := node.Open(id, nodes, p)
	if e != api.OK {
		t.Fatal("Open answers", e)
	}
	return n
}

// alone hands a node alone a message, and all that it sends to itself in the order that next tells, and answers what it
// sends to clients.
func alone(t testing.TB, n *node.Node, sent []api.Msg, next func(int) int) []api.Msg {
	t.Helper()
	var answers []api.Msg
	for steps := 0; len(sent) > 0; steps++ {
		if steps > 10000 {
			t.Fatal("it never ends")
		}
		i := next(len(sent))
		m := sent[i]
		sent = append(sent[:i:i], sent[i+1:]...)
		if m.Kind == api.MsgAnswer {
			answers = append(answers, m)
			continue
		}
		if m.To != 0 {
			t.Fatal("a node alone sends", m)
		}
		sent = append(sent, n.Handle(m)...)
	}
	return answers
}

func first(int) int { return 0 }

// idle tells what is wrong with it that nothing is under way.
func idle(t testing.TB, n *node.Node) {
	t.Helper()
	if doubts, locks, runs := n.Load(); doubts != 0 || locks != 0 || runs != 0 {
		t.Fatal("under way:", doubts, locks, runs)
	}
}

// holds holds a node alone against the graph.
func holds(t testing.TB, n *node.Node, g *graph.Graph) {
	t.Helper()
	var want []api.Vertex
	for _, v := range g.List() {
		want = append(want, g.Vertex(v))
	}
	if got := n.Verts(); !same(got, want) {
		t.Fatal("it holds", got, "not", want)
	}
	if got := n.Ghosts(); len(got) > 0 {
		t.Fatal("a node alone has ghosts", got)
	}
}

// The chapter's example.
func TestExample(t *testing.T) {
	n := opened(t, 0, 1, plateOf(t, api.MaxPages))
	for range 2 {
		list := alone(t, n, n.Handle(asked(0, 1, tx(add(1)))), first)
		if want := (api.Msg{Kind: api.MsgAnswer, Client: 0, Seq: 1}); len(list) != 1 || !same(list[0], want) {
			t.Fatal("it sends", list)
		}
		if verts := n.Verts(); !same(verts, []api.Vertex{{ID: 1, There: true}}) {
			t.Fatal("it holds", verts)
		}
		idle(t, n)
	}
	list := n.Decided()
	want := node.Decision{Tx: api.TxID{Node: 0, Inc: 1, Seq: 1}, Client: 0, Seq: 1, Req: tx(add(1))}
	if len(list) != 1 || !same(list[0], want) {
		t.Fatal("decided", list)
	}
}

// loner is a node alone, and the graph that it is held against.
type loner struct {
	testing.TB
	*rand.Rand
	*world // of which there are but its requests
	n      *node.Node
	p      *plate.Plate
	g      *graph.Graph
	seqs   [api.MaxClients]uint32
	known  map[api.TxID]bool
}

func newLoner(t testing.TB, pages int, seed int64) *loner {
	r := rand.New(rand.NewSource(seed))
	l := &loner{TB: t, Rand: r, p: plateOf(t, pages), g: graph.New(), known: map[api.TxID]bool{}}
	l.world = &world{t: t, Rand: r, nodes: make([]*node.Node, 1)}
	l.n = opened(t, 0, 1, l.p)
	return l
}

// ask asks for something, and answers what it sent to whom.
func (l *loner) ask(client byte, r api.Request) []api.Msg {
	return alone(l, l.n, l.n.Handle(asked(client, l.seqs[client], r)), first)
}

// does asks for something new, and holds the answer against the graph's.
func (l *loner) does(r api.Request) {
	l.Helper()
	client := byte(l.Intn(api.MaxClients))
	l.seqs[client]++
	want := l.g.Do(r)
	for range 1 + l.Intn(2) {
		list := l.ask(client, r)
		if len(list) != 1 || list[0].Client != client || list[0].Seq != l.seqs[client] || !same(list[0].Ans, want) {
			l.Fatal("request", r, "sends", list, "not", want)
		}
	}
	l.told(client, r, want, true)
}

// told holds what is decided against the one thing that was done, or wasn't.
func (l *loner) told(client byte, r api.Request, want api.Answer, done bool) {
	l.Helper()
	var fresh []node.Decision
	for _, d := range l.n.Decided() {
		if !l.known[d.Tx] {
			l.known[d.Tx] = true
			fresh = append(fresh, d)
		}
	}
	if !done && len(fresh) == 0 {
		return
	}
	should := node.Decision{Client: client, Seq: l.seqs[client], Req: r, Ans: want}
	if len(fresh) == 1 {
		should.Tx = fresh[0].Tx
	}
	if !done || len(fresh) != 1 || !same(fresh[0], should) {
		l.Fatal("decided", fresh, "not", should, done)
	}
}

// again opens the node anew.
func (l *loner) again() {
	l.Helper()
	l.n = opened(l, 0, 1, l.p)
}

// P19.6: a node alone answers as a graph, opened again and again, and behind Checkpoints.
func TestAlone(t *testing.T) {
	inParallel(t, 160, func(t *testing.T, seed int64) {
		l := newLoner(t, api.MaxPages, seed)
		verts := 2 + l.Intn(10)
		for range 80 {
			switch l.Intn(6) {
			case 0:
				l.again()
			case 1:
				if e := l.n.Checkpoint(); e != api.OK {
					t.Fatal("checkpoint", e)
				}
			case 2:
				if sent := l.n.Tick(); len(sent) > 0 {
					t.Fatal("a tick sends", sent)
				}
			}
			l.does(l.request(verts))
			idle(t, l.n)
			holds(t, l.n, l.g)
		}
	})
}

// P19.6: requests that aren't in form, and moves to nodes that there aren't, are answered as the graph answers them.
func TestAloneWrong(t *testing.T) {
	l := newLoner(t, api.MaxPages, 1)
	l.does(tx(add(1), add(2), join(1, 2, text("x"))))
	long := tx(add(3), add(4), add(5), add(6), add(7), add(8), add(9))
	for _, r := range []api.Request{
		{}, {Kind: 4}, tx(), long, tx(api.Op{}), tx(add(0)), tx(add(41)), tx(join(1, 1, number(1))), tx(set(1, 4, number(1))),
		tx(set(1, 0, text("A"))), tx(set(1, 0, api.Value{Kind: 9})), tx(make([]api.Op, 1000)...), hops(1, 9), hops(1, -1),
		hops(0, 1), hops(41, 1), move(1, 4), move(1, -1), move(0, 0), {Kind: api.ReqHops, V: 1, To: 1},
		{Kind: api.ReqTx, Ops: []api.Op{add(3)}, V: 1}, hops(3, 2), move(3, 0), move(1, 0), move(1, 1), move(1, 3), move(3, 3),
	} {
		l.does(r)
		holds(t, l.n, l.g)
		idle(t, l.n)
		l.again()
		l.told(0, r, api.Answer{}, false)
		holds(t, l.n, l.g)
	}
}

// fate is any fate of some writes.
func (l *loner) fate() plate.Fate {
	var f plate.Fate
	for range l.Intn(9) {
		f.Keep = append(f.Keep, byte(l.Intn(5)))
	}
	return f
}

// P19.6, P4: the power goes at each operation of a request. What was open comes to its end within 12 ticks: it was done
// wholly, or not at all, and it is done once when it is asked again.
func TestAloneCut(t *testing.T) {
	inParallel(t, 48, func(t *testing.T, seed int64) {
		pages := api.MaxPages
		if seed%2 == 1 {
			pages = 300
		}
		l := newLoner(t, pages, seed)
		verts := 2 + l.Intn(5)
		for range 25 {
			r := l.request(verts)
			client := byte(l.Intn(api.MaxClients))
			l.seqs[client]++
			want := l.g.Do(r)
			for at := 1; ; at++ {
				l.p.Arm(at)
				list := l.ask(client, r)
				if l.n.Up() {
					l.p.Arm(0)
					if len(list) != 1 || !same(list[0].Ans, want) {
						t.Fatal("request", r, "sends", list, "not", want)
					}
					break
				}
				if len(list) > 0 || len(l.n.Tick()) > 0 || l.n.Checkpoint() != api.ErrDown {
					t.Fatal("it isn't up, and works")
				}
				if e := l.p.Restart(l.fate()); e != api.OK {
					t.Fatal("it isn't up, but the plate is:", e)
				}
				l.again()
				for range 12 {
					alone(t, l.n, l.n.Tick(), first)
				}
				idle(t, l.n)
			}
			l.told(client, r, want, true)
			holds(t, l.n, l.g)
		}
	})
}

// P4: the power goes at each operation of an Open or of a Checkpoint, and all is there.
func TestAloneCutElsewhere(t *testing.T) {
	inParallel(t, 24, func(t *testing.T, seed int64) {
		l := newLoner(t, api.MaxPages, seed)
		for range 12 {
			for range 4 {
				l.does(l.request(6))
			}
			for at := 1; ; at++ {
				l.p.Arm(at)
				e := l.n.Checkpoint()
				if e == api.OK {
					break
				}
				if e != api.ErrDown || l.n.Up() || l.n.Checkpoint() != api.ErrDown {
					t.Fatal("checkpoint", e)
				}
				l.p.Restart(l.fate())
				l.again()
				holds(t, l.n, l.g)
			}
			for at := 1; ; at++ {
				l.p.Arm(at)
				n, e := node.Open(0, 1, l.p)
				if e == api.OK {
					l.p.Arm(0)
					l.n = n
					break
				}
				if e != api.ErrDown || n != nil {
					t.Fatal("Open answers", n, e)
				}
				l.p.Restart(l.fate())
			}
			holds(t, l.n, l.g)
			l.told(0, api.Request{}, api.Answer{}, false)
		}
	})
}

// P19.6: what was committed and not told is told when the node is opened, behind a Checkpoint, too.
func TestAloneTells(t *testing.T) {
	for _, short := range []bool{false, true} {
		l := newLoner(t, api.MaxPages, 1)
		for i := range uint32(5) {
			l.seqs[0]++
			l.ask(0, tx(add(i+1)))
		}
		if short && l.n.Checkpoint() != api.OK {
			t.Fatal("checkpoint")
		}
		l.again()
		l.seqs[0]++
		l.ask(0, tx(add(1)))
		list := l.n.Decided()
		if len(list) != 6 || len(l.n.Decided()) != 0 {
			t.Fatal("decided", list)
		}
		for i, d := range list {
			if d.Seq != uint32(i+1) || d.Client != 0 || (d.Ans.E == api.ErrExists) != (i == 5) {
				t.Fatal("decided", list)
			}
		}
		if list[4].Tx.Inc == list[5].Tx.Inc {
			t.Fatal("two lives of one number", list)
		}
	}
}

// P4: requests that come again late, out of turn, or of nobody are not done.
func TestAloneLate(t *testing.T) {
	l := newLoner(t, api.MaxPages, 1)
	for range 6 {
		l.seqs[1]++
		l.ask(1, tx(api.Op{Kind: api.OpDegree, A: 1}))
	}
	l.n.Decided()
	for range 2 {
		for _, m := range []api.Msg{
			asked(1, 0, tx(add(1))), asked(1, 5, tx(add(1))), asked(1, 1, tx(add(1))), asked(1, 11, tx(add(1))),
			asked(1, 1<<32-1, tx(add(1))), asked(4, 1, tx(add(1))), asked(255, 1, tx(add(1))),
		} {
			if sent := l.n.Handle(m); len(sent) > 0 {
				t.Fatal(m, "sends", sent)
			}
		}
		list := alone(t, l.n, l.n.Handle(asked(1, 6, tx(add(1)))), first)
		if len(list) != 1 || list[0].Ans.E != api.ErrNone {
			t.Fatal("the last one again:", list)
		}
		if len(l.n.Verts()) > 0 {
			t.Fatal("it was done")
		}
		l.again()
		l.n.Checkpoint()
		l.again()
	}
}
