package cluster_test

import (
	"slices"
	"testing"

	"gusset/api"
	"gusset/cluster"
	"gusset/ghost"
)

// is holds what was got against what should be.
func (w *world) is(what string, got, should any) {
	w.Helper()
	if !same(got, should) {
		w.wrong(what, "is", got, "not", should)
	}
}

// load is what is under way at a node.
func (w *world) load(n int) [3]int {
	doubts, locks, runs := w.Load(n)
	return [3]int{doubts, locks, runs}
}

// vertex is one that is there, with halves to others.
func vertex(id uint32, fars ...uint32) api.Vertex {
	v := api.Vertex{ID: id, There: true}
	for _, far := range fars {
		v.Halves = append(v.Halves, api.Half{Far: far})
	}
	return v
}

// The chapter's examples.
func TestExamples(t *testing.T) {
	w := newWorld(t, 3, 1, 1)
	first := tx(add(1), add(2), join(1, 2, api.Value{}))
	w.call(0, first)
	w.drain()
	w.is("replies", w.Replies(), []cluster.Reply{{Seq: 1, Req: first, To: 1}})
	w.is("node 0", w.Verts(0), []api.Vertex{})
	w.is("node 1", w.Verts(1), []api.Vertex{vertex(1, 2)})
	w.is("node 2", w.Verts(2), []api.Vertex{vertex(2, 1)})
	w.is("ghosts of 0", w.Ghosts(0), []ghost.Ghost{})
	w.is("ghosts of 1", w.Ghosts(1), []ghost.Ghost{{V: 2, N: 1}})
	w.is("ghosts of 2", w.Ghosts(2), []ghost.Ghost{{V: 1, N: 1}})

	w.call(0, move(1, 2))
	w.drain()
	w.is("reply", w.Replies()[1], cluster.Reply{Seq: 2, Req: move(1, 2), From: 1, To: 2})
	w.is("node 1", w.Verts(1), []api.Vertex{})
	w.is("node 2", w.Verts(2), []api.Vertex{vertex(1, 2), vertex(2, 1)})
	for n := range 3 {
		w.is("ghosts", w.Ghosts(n), []ghost.Ghost{})
		w.is("entries", w.Dirs(n), []api.Entry{{V: 1, Owner: 2, Epoch: 1}})
	}
	w.checkHalves()
	w.checkPlain()
}

// P22.1: New, with as many as there may be, and with others.
func TestNew(t *testing.T) {
	for nodes := -1; nodes <= api.MaxNodes+1; nodes++ {
		for clients := -1; clients <= api.MaxClients+1; clients++ {
			c, e := cluster.New(nodes, clients)
			if nodes < 1 || nodes > api.MaxNodes || clients < 1 || clients > api.MaxClients {
				if c != nil || e != api.ErrArg {
					t.Fatal("New", nodes, clients, "answers", c, e)
				}
				continue
			}
			if e != api.OK {
				t.Fatal("New", nodes, clients, "answers", e)
			}
			for n := -1; n <= api.MaxNodes; n++ {
				if is := n >= 0 && n < nodes; c.Up(n) != is {
					t.Fatal("of", nodes, "nodes", n, "is up:", c.Up(n))
				}
			}
			if e := c.Do(cluster.Step{Kind: cluster.Call, A: clients - 1, Req: hops(1, 0)}); e != api.OK {
				t.Fatal("the last client's call is refused:", e)
			}
		}
	}
}

// P22.1: what is refused, and with which error.
func TestRefused(t *testing.T) {
	w := newWorld(t, 2, 2, 1)
	w.call(0, tx(add(1)))
	w.call(1, hops(1, 1))
	w.do(cluster.Crash, 1)
	bad := tx(api.Op{Kind: api.OpAdd})
	for _, c := range []struct {
		s cluster.Step
		e api.Errno
	}{
		{cluster.Step{}, api.ErrArg},
		{cluster.Step{Kind: 14}, api.ErrArg},
		{cluster.Step{Kind: 255}, api.ErrArg},
		{cluster.Step{Kind: cluster.Call, A: -1, Req: hops(1, 1)}, api.ErrArg},
		{cluster.Step{Kind: cluster.Call, A: 2, Req: bad}, api.ErrArg},
		{cluster.Step{Kind: cluster.Call, A: 1, Req: api.Request{}}, api.ErrArg},
		{cluster.Step{Kind: cluster.Call, A: 1, Req: move(1, 2)}, api.ErrArg},
		{cluster.Step{Kind: cluster.Call, A: 1, Req: hops(1, api.MaxHops+1)}, api.ErrArg},
		{cluster.Step{Kind: cluster.Call, A: 1, Req: tx()}, api.ErrLong},
		{cluster.Step{Kind: cluster.Call, A: 1, Req: tx(make([]api.Op, 7)...)}, api.ErrLong},
		{cluster.Step{Kind: cluster.Call, A: 1, Req: bad}, api.ErrForm},
		{cluster.Step{Kind: cluster.Call, A: 1, Req: hops(1, 1)}, api.ErrState},
		{cluster.Step{Kind: cluster.Deliver, A: 2}, api.ErrNone},
		{cluster.Step{Kind: cluster.Deliver, A: -1}, api.ErrNone},
		{cluster.Step{Kind: cluster.Copy, A: 2}, api.ErrNone},
		{cluster.Step{Kind: cluster.Copy, A: -1}, api.ErrNone},
		{cluster.Step{Kind: cluster.Drop, A: 2}, api.ErrNone},
		{cluster.Step{Kind: cluster.Drop, A: -1}, api.ErrNone},
		{cluster.Step{Kind: cluster.Hold, A: 2}, api.ErrNone},
		{cluster.Step{Kind: cluster.Hold, A: -1}, api.ErrNone},
		{cluster.Step{Kind: cluster.Timer, A: 2}, api.ErrArg},
		{cluster.Step{Kind: cluster.Timer, A: -1}, api.ErrArg},
		{cluster.Step{Kind: cluster.Again, A: 2}, api.ErrArg},
		{cluster.Step{Kind: cluster.Again, A: -1}, api.ErrArg},
		{cluster.Step{Kind: cluster.Crash, A: 2}, api.ErrArg},
		{cluster.Step{Kind: cluster.Crash, A: -1}, api.ErrArg},
		{cluster.Step{Kind: cluster.Crash, A: 1}, api.ErrState},
		{cluster.Step{Kind: cluster.Restart, A: 2}, api.ErrArg},
		{cluster.Step{Kind: cluster.Restart, A: -1}, api.ErrArg},
		{cluster.Step{Kind: cluster.Restart, A: 0}, api.ErrState},
		{cluster.Step{Kind: cluster.Arm, A: 2, B: 1}, api.ErrArg},
		{cluster.Step{Kind: cluster.Arm, A: -1, B: 1}, api.ErrArg},
		{cluster.Step{Kind: cluster.Arm, A: 0, B: -1}, api.ErrArg},
		{cluster.Step{Kind: cluster.Arm, A: 1, B: -1}, api.ErrArg},
		{cluster.Step{Kind: cluster.Arm, A: 1, B: 1}, api.ErrState},
		{cluster.Step{Kind: cluster.Checkpoint, A: 2}, api.ErrArg},
		{cluster.Step{Kind: cluster.Checkpoint, A: -1}, api.ErrArg},
		{cluster.Step{Kind: cluster.Checkpoint, A: 1}, api.ErrState},
	} {
		if e := w.try(c.s); e != c.e {
			w.wrong("step", c.s, "answers", e, "not", c.e)
		}
		w.is("bag", w.Bag(), 2)
	}
	w.do(cluster.Timer, 1)
	w.is("bag", w.Bag(), 2)
	w.settle()
	w.is("client 0", w.answered(0), api.Answer{})
	w.is("requests", len(w.Replies()), 2)
}

// P22.1: of a nil Cluster any number from 0 on may be a client, a node; it does nothing, and has nothing.
func TestNil(t *testing.T) {
	for kind := range 256 {
		for _, a := range []int{-1, 0, 7, 1 << 40} {
			for _, b := range []int{-1, 0, 1} {
				e := api.ErrNone
				switch k := byte(kind); {
				case k < cluster.Call || k > cluster.Drain, k == cluster.Arm && b < 0:
					e = api.ErrArg
				case k >= cluster.Deliver && k <= cluster.Hold, k >= cluster.Round:
				case a < 0:
					e = api.ErrArg
				}
				s := cluster.Step{Kind: byte(kind), A: a, B: b, Req: hops(1, 1)}
				if got := (*cluster.Cluster)(nil).Do(s); got != e {
					t.Fatal("Do", s, "of nil answers", got, "not", e)
				}
			}
		}
	}
	for _, c := range []struct {
		r api.Request
		e api.Errno
	}{
		{api.Request{}, api.ErrArg},
		{move(1, api.MaxNodes), api.ErrArg},
		{move(1, api.MaxNodes-1), api.ErrNone},
		{tx(), api.ErrLong},
		{hops(0, 1), api.ErrForm},
	} {
		if e := (*cluster.Cluster)(nil).Do(cluster.Step{Kind: cluster.Call, Req: c.r}); e != c.e {
			t.Fatal("Call", c.r, "of nil answers", e, "not", c.e)
		}
	}
	w := &world{T: t, nodes: api.MaxNodes}
	for n := -1; n <= api.MaxNodes; n++ {
		w.hasNothing(n)
	}
	if len(w.Commits())+len(w.Replies())+len(w.Served())+w.Bag() > 0 || w.Waits(0) || w.Waits(-1) {
		t.Fatal("a nil Cluster has something")
	}
}

// hasNothing is that a node is down, or that there is none.
func (w *world) hasNothing(n int) {
	w.Helper()
	w.is("up", w.Up(n), false)
	w.is("lists", len(w.Verts(n))+len(w.Ghosts(n))+len(w.Dirs(n)), 0)
	w.is("load", w.load(n), [3]int{})
	for v := range uint32(api.MaxVertex + 2) {
		w.is("doubt", w.Doubt(n, v), false)
	}
}

// P22.1: a client's call goes into the bag, from where it is delivered, copied, held, dropped; it waits till it is
// answered, and asks again.
func TestMessages(t *testing.T) {
	w := newWorld(t, 2, 4, 1)
	for client := range 4 {
		w.is("waits", w.Waits(client), false)
		w.do(cluster.Again, client)
		w.is("bag", w.Bag(), client)
		w.call(client, tx(add(uint32(2*client+2-client%2))))
		w.is("waits", w.Waits(client), true)
	}
	w.is("waits", w.Waits(-1) || w.Waits(4), false)
	// All of these vertices are of their clients' homes: each request is answered at once.
	w.do(cluster.Deliver, 2)
	w.is("commits", w.Commits()[0].Req, tx(add(6)))
	w.is("bag", w.Bag(), 4) // 0, 1, 3, the answer to 2
	w.do(cluster.Hold, 0)   // 1, 3, the answer, 0
	w.do(cluster.Copy, 0)   // .. and the answer to 1
	w.is("bag", w.Bag(), 5)
	w.is("commits", w.Commits()[1].Req, tx(add(3)))
	w.do(cluster.Drop, 1) // 1, the answer to 2, 0, the answer to 1
	w.do(cluster.Copy, 1)
	w.is("waits", w.Waits(2), false)
	w.do(cluster.Deliver, 1) // it is answered already
	w.is("replies", w.Replies(), []cluster.Reply{{Client: 2, Seq: 1, Req: tx(add(6)), To: 2}})
	w.do(cluster.Deliver, 2)
	w.is("waits", w.Waits(1), false)
	w.is("bag", w.Bag(), 2) // 1, 0
	w.do(cluster.Drop, 1)
	w.drain()
	w.is("waits", [4]bool{w.Waits(0), w.Waits(1), w.Waits(2), w.Waits(3)}, [4]bool{true, false, false, true})
	w.is("commits", len(w.Commits()), 2)
	w.call(2, hops(6, 0))
	for range 2 {
		w.do(cluster.Again, 3)
	}
	w.do(cluster.Again, 0)
	w.is("bag", w.Bag(), 4)
	w.drain()
	w.is("reply", w.Replies()[2], cluster.Reply{
		Client: 2, Seq: 2, Req: hops(6, 0), Ans: api.Answer{List: []uint32{6}}, From: 2, To: 5,
	})
	w.is("replies", len(w.Replies()), 5)
	w.checkHalves()
	w.checkPlain()
}

// P22.1: what is delivered to a node that is down is lost, what is copied stays; time doesn't go by for it.
func TestDown(t *testing.T) {
	w := newWorld(t, 2, 1, 1)
	w.did(0, tx(add(1), add(2), join(1, 2, api.Value{})))
	w.did(0, move(2, 1))
	w.call(0, get1())
	w.do(cluster.Crash, 0)
	w.hasNothing(0)
	w.do(cluster.Copy, 0)
	w.is("bag", w.Bag(), 1)
	w.do(cluster.Deliver, 0)
	w.do(cluster.Timer, 0)
	w.is("bag", w.Bag(), 0)
	w.do(cluster.Again, 0)
	w.do(cluster.Round) // lost, and asked again
	w.is("bag", w.Bag(), 1)
	w.is("node 1", w.Verts(1), []api.Vertex{vertex(1, 2), vertex(2, 1)})
	w.restart(0)
	w.is("up", w.Up(0), true)
	w.is("entries", w.Dirs(0), []api.Entry{{V: 2, Owner: 1, Epoch: 1}})
	w.drain()
	w.is("reply", w.answered(0), api.Answer{Vals: []api.Value{{}}})
	w.checkPlain()
}

func get1() api.Request { return tx(get(1)) }

// P22.1: the power goes at the operation that the last Arm tells; with the Restart that puts it on the node has what its
// Fate says.
func TestArm(t *testing.T) {
	r := tx(add(1), add(2), join(1, 2, api.Value{}))
	armed := func(at int) *world {
		w := newWorld(t, 1, 1, 1)
		w.do(cluster.Arm, 0, 1)
		w.do(cluster.Arm, 0, at)
		w.call(0, r)
		w.drain()
		return w
	}
	if w := armed(0); !w.Up(0) {
		w.wrong("the power goes at an operation that no Arm tells")
	}
	last := 0 // with which the decision is laid down
	for !armed(last + 1).Up(0) {
		last++
	}
	for at := range last {
		for _, all := range []bool{false, true} {
			w := armed(at + 1)
			w.hasNothing(0)
			w.is("commits", len(w.Commits()), 0)
			w.is("refusal", w.try(cluster.Step{Kind: cluster.Crash}), api.ErrState)
			w.is("refusal", w.try(cluster.Step{Kind: cluster.Arm, B: 1}), api.ErrState)
			w.is("refusal", w.try(cluster.Step{Kind: cluster.Checkpoint}), api.ErrState)
			if all {
				w.restart(0, slices.Repeat([]byte{1}, last)...)
			} else {
				w.restart(0)
			}
			if !all || at+1 == last {
				w.is("committed", len(w.Commits()) == 1, all)
			}
			w.do(cluster.Again, 0)
			w.drain()
			w.is("reply", w.answered(0), api.Answer{})
			w.checkPlain()
		}
	}
}

// P22.1: a plate stays as it is through a Crash: what was armed is in force behind it, and what is written is written. An
// Open in whose midst the power goes leaves the node down, and the step is OK.
func TestCrash(t *testing.T) {
	w := newWorld(t, 1, 1, 1)
	w.did(0, tx(add(1)))
	w.do(cluster.Arm, 0, 1)
	w.do(cluster.Crash, 0)
	w.hasNothing(0)
	w.is("refusal", w.try(cluster.Step{Kind: cluster.Crash}), api.ErrState)
	w.restart(0)
	w.hasNothing(0)
	w.restart(0)
	w.is("vertices", w.Verts(0), []api.Vertex{vertex(1)})
	w.is("refusal", w.try(cluster.Step{Kind: cluster.Restart}), api.ErrState)
	w.is("commits", len(w.Commits()), 1)
	w.did(0, tx(add(2)))
	w.checkPlain()
}

// P22.1: a Checkpoint in whose midst the power goes was done as far as it came: the node is down.
func TestCheckpoint(t *testing.T) {
	w := newWorld(t, 1, 1, 1)
	w.did(0, tx(add(1), set(1, text("abc"))))
	for at := 1; ; at++ {
		w.do(cluster.Arm, 0, at)
		w.do(cluster.Checkpoint, 0)
		if w.Up(0) {
			break
		}
		w.hasNothing(0)
		w.restart(0, slices.Repeat([]byte{byte(at)}, 20)...)
		w.checkPlain()
	}
	w.do(cluster.Arm, 0, 0)
	w.do(cluster.Crash, 0)
	w.restart(0)
	w.is("value", w.did(0, get1()), api.Answer{Vals: []api.Value{text("abc")}})
	w.checkPlain()
}

// P22.1: of what a Round does each thing: it delivers what there is, but not what is sent upon that; all tick; all ask
// again.
func TestRound(t *testing.T) {
	w := newWorld(t, 2, 2, 1)
	w.call(0, tx(add(1)))
	w.do(cluster.Round)
	// Node 0 has asked node 1 for the lock, again as it has ticked, and the client has asked again.
	w.is("bag", w.Bag(), 3)
	w.is("under way", [2][3]int{w.load(0), w.load(1)}, [2][3]int{{0, 0, 1}, {}})
	w.do(cluster.Round)
	w.is("under way", [2][3]int{w.load(0), w.load(1)}, [2][3]int{{0, 0, 1}, {0, 1, 0}})
	w.is("waits", [2]bool{w.Waits(0), w.Waits(1)}, [2]bool{true, false})
	w.settle()
	w.is("commits", len(w.Commits()), 1)
}

// P22.1: Drain delivers the first message, till there is none, through all that is sent upon that: here some 18,000.
func TestDrain(t *testing.T) {
	flooded := func() *world {
		w := newWorld(t, 2, 2, 1)
		w.fill(10, 0)
		for v := range uint32(10) {
			w.did(0, tx(join(v+1, (v+1)%10+1, api.Value{})))
		}
		for client := range 2 {
			w.call(client, hops(uint32(1+client), api.MaxHops))
		}
		for w.Bag() < api.MaxBag {
			w.do(cluster.Again, w.Bag()%2)
		}
		w.do(cluster.Again, 0) // what the bag refuses is lost
		w.is("bag", w.Bag(), api.MaxBag)
		return w
	}
	w, twin := flooded(), flooded()
	w.drain()
	delivered := 0
	for ; twin.Bag() > 0; delivered++ {
		twin.do(cluster.Deliver)
	}
	if delivered < 15000 {
		t.Fatal("there were but", delivered, "messages")
	}
	w.is("replies", w.Replies(), twin.Replies())
	w.is("under way", [2][3]int{w.load(0), w.load(1)}, [2][3]int{twin.load(0), twin.load(1)})
	w.settle()
}

// P22.1: From is how many commits there were when the request was called, To when it was answered; a decision that was
// told by an earlier life of its node, too, is one commit.
func TestFromTo(t *testing.T) {
	w := newWorld(t, 2, 2, 1)
	w.did(1, tx(add(1)))
	w.call(0, tx(add(2)))
	w.do(cluster.Drop)
	w.did(1, tx(add(3)))
	w.do(cluster.Again, 0)
	w.drain()
	w.is("replies", w.Replies()[1:], []cluster.Reply{
		{Client: 1, Seq: 2, Req: tx(add(3)), From: 1, To: 2}, {Seq: 1, Req: tx(add(2)), From: 1, To: 3},
	})
	for range 3 {
		for n := range 2 {
			w.do(cluster.Crash, n)
			w.restart(n)
		}
	}
	w.is("commits", len(w.Commits()), 3)
	w.did(0, hops(3, 0))
	w.is("reply", w.Replies()[3], cluster.Reply{
		Seq: 2, Req: hops(3, 0), Ans: api.Answer{List: []uint32{3}}, From: 3, To: 4,
	})
	w.checkPlain()
}

// P22.1: Served tells whose locks owners have taken, in their order, each time all of it.
func TestServed(t *testing.T) {
	w := newWorld(t, 3, 1, 1)
	w.is("served", w.Served(), []api.Entry{})
	w.did(0, tx(add(4)))
	w.did(0, move(4, 2))
	w.did(0, tx(get(4)))
	w.did(0, tx(add(3)))
	for range 2 {
		w.is("served", w.Served(), []api.Entry{{V: 4, Owner: 1}, {V: 4, Owner: 1}, {V: 4, Owner: 2, Epoch: 1}, {V: 3}})
	}
}
