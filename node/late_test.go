package node_test

import (
	"slices"
	"testing"

	"gusset/api"
	"gusset/wire"
)

// find is the place of the first message of a kind to a node, or to any client; below 0: there is none.
func (w *world) find(kind, to byte) int {
	return slices.IndexFunc(w.bag, func(p []byte) bool {
		m, _ := wire.Decode(p)
		return m.Kind == kind && (m.To == to || kind == api.MsgAnswer)
	})
}

// goes delivers the first message of a kind to a node.
func (w *world) goes(kind, to byte) {
	w.t.Helper()
	w.deliver(w.steal(kind, to))
}

// steal takes the first message of a kind to a node.
func (w *world) steal(kind, to byte) []byte {
	w.t.Helper()
	i := w.find(kind, to)
	if i < 0 {
		w.fatal("no message of the kind", kind, "to", to)
	}
	return w.take(i)
}

// seen is a copy of the first message of a kind to a node.
func (w *world) seen(kind, to byte) []byte {
	w.t.Helper()
	p := w.steal(kind, to)
	w.bag = append(w.bag, p)
	return slices.Clone(p)
}

// reopen crashes a node, and opens it.
func (w *world) reopen(i int) {
	w.nodes[i] = nil
	w.restart(i)
}

// did lets a client ask, and all messages but those in the bag be delivered: it must be done.
func (w *world) did(c int, r api.Request) {
	w.t.Helper()
	kept := w.bag
	w.bag = nil
	w.call(c, r)
	w.drain()
	w.bag = kept
	if k := w.clients[c]; k.open || k.answer.E != api.OK {
		w.fatal(r, "is answered", k.answer, k.open)
	}
}

// under is what is under way at a node.
func (w *world) under(i int) [3]int {
	doubts, locks, runs := w.nodes[i].Load()
	return [3]int{doubts, locks, runs}
}

// is holds what is under way at a node against what should be.
func (w *world) is(i, doubts, locks, runs int) {
	w.t.Helper()
	if got := w.under(i); got != [3]int{doubts, locks, runs} {
		w.fatal("at", i, "there are", got, "not", doubts, locks, runs)
	}
}

// answers holds what a client was answered last against an error.
func (w *world) answers(c int, e api.Errno) {
	w.t.Helper()
	if k := w.clients[c]; k.open || k.answer.E != e {
		w.fatal("client", c, "was answered", k.answer, "or waits:", k.open)
	}
}

// asksForLocks lets client 0 ask, and is a copy of the message with which its home asks node 1 for locks.
func (w *world) asksForLocks(r api.Request) []byte {
	w.t.Helper()
	w.call(0, r)
	w.goes(api.MsgRequest, 0)
	if r.Kind == api.ReqHops {
		return w.seen(api.MsgFrontier, 1)
	}
	return w.seen(api.MsgLock, 1)
}

// P3: what a node granted in an earlier life isn't held for the plan, though it has granted it again since.
func TestStaleGrant(t *testing.T) {
	w := newWorld(t, 3, 2, 1)
	w.did(0, tx(add(1), add(2)))
	w.call(0, tx(get(1, 0), set(2, 0, number(1))))
	w.goes(api.MsgRequest, 0)
	lock := w.seen(api.MsgLock, 1)
	w.goes(api.MsgLock, 1)
	w.goes(api.MsgGranted, 0)
	w.reopen(1)
	w.did(1, tx(set(1, 0, number(5))))
	w.deliver(lock)
	w.steal(api.MsgGranted, 0)
	w.drain()
	w.answers(0, api.ErrAborted)
	w.checkPlain()
}

// P3: a grant of a node's new life takes the place of the earlier one, and doesn't give it back.
func TestNewGrant(t *testing.T) {
	w := newWorld(t, 3, 2, 1)
	w.did(0, tx(add(1), add(2)))
	w.call(0, tx(get(1, 0), get(2, 0)))
	w.goes(api.MsgRequest, 0)
	lock := w.seen(api.MsgLock, 1)
	w.goes(api.MsgLock, 1)
	late := w.steal(api.MsgGranted, 0)
	w.reopen(1)
	w.did(1, tx(set(1, 0, number(5))))
	w.deliver(lock)
	w.goes(api.MsgGranted, 0)
	w.deliver(late)
	w.drain()
	w.answers(0, api.OK)
	if got := w.clients[0].answer.Vals; !same(got, []api.Value{number(5), {}}) {
		w.fatal("it has read", got)
	}
	w.checkPlain()
}

// P3: of a traversal what a node sent in an earlier life, and nobody holds any more, doesn't count.
func TestStaleTraversal(t *testing.T) {
	w := newWorld(t, 3, 2, 1)
	w.did(0, tx(add(1), add(2), add(5), join(1, 2, api.Value{})))
	w.call(0, hops(1, 2))
	w.goes(api.MsgRequest, 0)
	w.goes(api.MsgFrontier, 1)
	w.steal(api.MsgVisited, 0)
	w.goes(api.MsgFrontier, 2)
	w.reopen(1)
	w.did(1, tx(join(1, 5, api.Value{})))
	w.again(0)
	w.goes(api.MsgRequest, 0)
	w.goes(api.MsgFrontier, 1)
	w.steal(api.MsgFrontier, 2)
	w.drain()
	w.answers(0, api.ErrAborted)
	w.checkOrder()
	w.settle()
}

// P3: of a traversal a node doesn't hold in a new life what it came to in an earlier one.
func TestTraversalOfTwoLives(t *testing.T) {
	w := newWorld(t, 3, 2, 1)
	w.did(0, tx(add(1), add(2), add(4), add(7), join(1, 2, api.Value{}), join(2, 4, api.Value{})))
	w.call(0, hops(1, 3))
	w.goes(api.MsgRequest, 0)
	w.goes(api.MsgFrontier, 1)
	w.goes(api.MsgVisited, 0)
	w.goes(api.MsgFrontier, 2)
	w.reopen(1)
	w.did(1, tx(join(1, 7, api.Value{})))
	w.drain()
	w.answers(0, api.ErrAborted)
	w.checkOrder()
	w.settle()
}

// P3: what a node went on from for what was sent in an earlier life isn't superfluous for what is sent in a later one.
func TestTraversalPruned(t *testing.T) {
	w := newWorld(t, 3, 2, 1)
	w.did(0, tx(add(1), add(2), add(3), add(6), join(1, 2, api.Value{})))
	w.did(0, tx(join(2, 3, api.Value{}), join(3, 6, api.Value{})))
	w.call(0, hops(1, 3))
	w.goes(api.MsgRequest, 0)
	w.goes(api.MsgFrontier, 1)
	w.steal(api.MsgVisited, 0)
	w.goes(api.MsgFrontier, 2)
	w.bag = nil
	w.reopen(1)
	w.again(0)
	w.drain()
	w.answers(0, api.ErrAborted)
	w.checkPlain()
	w.did(0, hops(1, 3))
	if list := w.clients[0].answer.List; !slices.Equal(list, []uint32{1, 2, 3, 6}) {
		w.fatal("it has come to", list)
	}
}

// P22.5: what comes late for a transaction that is over takes no lock, and wounds nobody.
func TestLateLock(t *testing.T) {
	for _, r := range []api.Request{tx(add(1), add(2)), move(1, 2), hops(1, 3)} {
		w := newWorld(t, 3, 2, 1)
		late := w.asksForLocks(r)
		w.drain()
		w.checkPlain()
		w.call(1, tx(set(1, 0, number(1)), set(2, 0, number(1))))
		w.goes(api.MsgRequest, 1)
		w.is(1, 0, 1, 1)
		w.deliver(late)
		w.is(1, 0, 1, 1)
		w.drain()
		if k := w.clients[1]; k.open || k.answer.E == api.ErrAborted {
			w.fatal("given up for what was over", k)
		}
		w.checkPlain()
		w.deliver(late)
		w.is(1, 0, 0, 0)
		w.checkPlain()
	}
}

// P22.5: what comes late, and of which the node knows nothing any more, is let go of as soon as its home hears of it.
func TestForgottenLock(t *testing.T) {
	for _, r := range []api.Request{tx(add(1), add(2)), move(1, 2), hops(1, 3)} {
		w := newWorld(t, 3, 1, 1)
		late := w.asksForLocks(r)
		w.drain()
		w.nodes[1].Checkpoint()
		w.reopen(1)
		w.deliver(late)
		w.is(1, 0, 1, 0)
		w.drain()
		w.checkPlain()
	}
}

// P22.5: what a node ran in an earlier life, and was not ready, stands in nobody's way.
func TestEarlierLife(t *testing.T) {
	w := newWorld(t, 2, 2, 1)
	w.did(0, tx(add(1), add(2)))
	w.call(0, tx(set(1, 0, number(1))))
	w.goes(api.MsgRequest, 0)
	late := w.seen(api.MsgLock, 1)
	w.goes(api.MsgLock, 1)
	w.is(1, 0, 1, 0)
	w.bag = nil
	w.reopen(0)
	for range 5 {
		// With each its clock goes on: what it runs then is younger than what it ran.
		w.nodes[0].Handle(api.Msg{Kind: api.MsgCommit, From: 1, Tx: api.TxID{Node: 1}, Age: 1000})
	}
	w.again(0)
	w.drain()
	w.answers(0, api.OK)
	w.checkPlain()
	w.deliver(late)
	w.is(1, 0, 0, 0)
	w.drain()
	w.checkPlain()
}

// Example 9: a node crashes in doubt: opened again it holds its locks, asks, and learns what has become of it.
func TestDoubt(t *testing.T) {
	for _, committed := range []bool{false, true} {
		w := newWorld(t, 3, 2, 1)
		w.did(0, tx(add(1), add(2), set(2, 0, number(4))))
		w.call(0, tx(join(1, 2, text("x")), get(2, 0)))
		w.goes(api.MsgRequest, 0)
		for _, kind := range []byte{api.MsgLock, api.MsgGranted, api.MsgPrepare} {
			for _, to := range []byte{1, 2} {
				if kind == api.MsgGranted {
					to = 0
				}
				w.goes(kind, to)
			}
		}
		for range 2 {
			w.is(1, 1, 1, 0)
			if n := w.nodes[1]; !n.Doubt(1) || n.Doubt(2) || n.Doubt(4) || n.Doubt(0) || len(n.Verts()[0].Halves) > 0 {
				w.fatal("in doubt of what?")
			}
			w.nodes[1].Checkpoint()
			w.reopen(1)
			w.is(1, 1, 1, 0)
			w.reopen(1)
		}
		w.checkHalves()
		if committed {
			w.goes(api.MsgYes, 0)
			w.goes(api.MsgYes, 0)
			w.steal(api.MsgCommit, 1)
			w.goes(api.MsgCommit, 2)
			w.checkHalves()
			w.is(0, 0, 0, 1)
		} else {
			w.bag = nil
			w.reopen(0)
		}
		w.call(1, tx(get(1, 0)))
		w.drain()
		w.is(1, 1, 1, 1)
		w.tick(1)
		w.drain()
		w.answers(1, api.OK)
		w.is(1, 0, 0, 0)
		if halves := len(w.nodes[1].Verts()[0].Halves); (halves == 1) != committed || w.nodes[1].Doubt(1) {
			w.fatal("it has", halves, "halves")
		}
		if committed {
			w.answers(0, api.OK)
			w.checkPlain()
		}
		w.settle()
	}
}

// A transaction that can't be decided is given up behind some ticks, for good; what was granted or promised is let go of.
func TestGivenUp(t *testing.T) {
	for _, kind := range []byte{api.MsgLock, api.MsgGranted, api.MsgPrepare, api.MsgYes} {
		w := newWorld(t, 2, 1, 1)
		w.call(0, tx(add(1)))
		request := w.seen(api.MsgRequest, 0)
		for w.find(kind, 0) < 0 && w.find(kind, 1) < 0 {
			w.deliver(w.take(0))
		}
		held, ticks := w.take(0), 0
		for ; w.find(api.MsgAnswer, 0) < 0; ticks++ {
			if ticks == 12 {
				w.fatal("not given up")
			}
			w.is(0, 0, 0, 1)
			w.bag = nil
			w.tick(0)
		}
		w.is(0, 0, 0, 0)
		w.goes(api.MsgAnswer, 0)
		w.answers(0, api.ErrAborted)
		w.bag = nil
		w.deliver(held)
		w.drain()
		if kind == api.MsgLock || kind == api.MsgGranted || kind == api.MsgYes {
			w.is(1, 0, 0, 0)
		}
		for range 2 {
			w.deliver(request)
			if len(w.commits) > 0 || w.find(api.MsgAnswer, 0) < 0 {
				w.fatal("it was done, or isn't answered")
			}
			w.bag = nil
			w.reopen(0)
		}
		w.settle()
		w.did(0, tx(add(1)))
	}
}

// What was lost is asked for again at a tick, without the client.
func TestTickAsksAgain(t *testing.T) {
	for _, kind := range []byte{
		api.MsgLock, api.MsgGranted, api.MsgPrepare, api.MsgYes, api.MsgCommit, api.MsgDone,
	} {
		w := newWorld(t, 2, 1, 1)
		w.call(0, tx(add(1)))
		for w.find(kind, 0) < 0 && w.find(kind, 1) < 0 {
			w.deliver(w.take(0))
		}
		w.bag = nil
		w.drain()
		w.tick(0)
		w.drain()
		w.answers(0, api.OK)
		w.checkPlain()
	}
}

// Example 5: who is older takes the lock of who is younger, who is given up.
func TestWound(t *testing.T) {
	w := newWorld(t, 3, 3, 1)
	w.did(0, tx(add(1), add(2), add(3)))
	w.call(0, tx(set(1, 0, number(1)), set(2, 0, number(1))))
	w.goes(api.MsgRequest, 0)
	w.goes(api.MsgLock, 1)
	elder := w.steal(api.MsgLock, 2)
	w.call(1, tx(set(2, 0, number(2)), set(1, 0, number(2))))
	w.goes(api.MsgRequest, 1)
	w.goes(api.MsgLock, 2)
	w.is(1, 0, 1, 1)
	w.is(2, 0, 1, 0)
	w.deliver(elder)
	w.is(2, 0, 1, 0)
	w.drain()
	w.answers(0, api.OK)
	w.answers(1, api.ErrAborted)
	w.checkPlain()
}

// ErrBusy: more transactions than MaxFlight, and more locks than MaxLocks.
func TestBusy(t *testing.T) {
	w := newWorld(t, 2, 1, 1)
	n := w.nodes[0]
	// A client that goes on without its answers, each of which waits for what the other node has to apply.
	for seq := uint32(1); seq <= api.MaxFlight; seq++ {
		w.bag = nil
		w.behind(0, n.Handle(asked(0, seq, tx(get(1+2*seq, 0)))))
		for w.find(api.MsgCommit, 1) < 0 {
			w.deliver(w.take(0))
		}
		w.is(0, 0, 0, int(seq))
	}
	sent := n.Handle(asked(0, api.MaxFlight+1, tx(get(1, 0))))
	if len(sent) != 1 || sent[0].Kind != api.MsgAnswer || sent[0].Ans.E != api.ErrBusy {
		w.fatal("it sends", sent)
	}
	w.is(0, 0, 0, api.MaxFlight)
	w.bag = nil
	w.settle()
	if len(w.commits) != api.MaxFlight {
		w.fatal("committed", w.commits)
	}
	// Traversals of the other node that are never decided.
	lock := func(seq, v, to uint32) {
		m := api.Msg{Kind: api.MsgLock, From: 1, Tx: api.TxID{Node: 1, Inc: 1, Seq: seq}, Age: 1000}
		for ; v <= to; v += 2 {
			m.Wants = append(m.Wants, api.Want{V: v, Mode: api.Shared})
		}
		sent = append(sent, n.Handle(m)...)
	}
	sent = nil
	for seq := uint32(100); seq < 112; seq++ {
		lock(seq, 2, api.MaxVertex)
	}
	lock(112, 2, 2*15)
	w.is(0, 0, api.MaxLocks-1, 0)
	lock(113, 2, 4)
	if last := sent[len(sent)-1]; last.Kind != api.MsgRefused || last.Ans.E != api.ErrBusy {
		w.fatal("it sends", sent)
	}
	ask := func(seq uint32, r api.Request, e api.Errno) {
		sent := n.Handle(asked(0, seq, r))
		if len(sent) != 1 || sent[0].Kind != api.MsgAnswer || sent[0].Ans.E != e {
			w.fatal(r, "sends", sent)
		}
		w.is(0, 0, api.MaxLocks-1, 0)
	}
	ask(api.MaxFlight+2, hops(2, 0), api.ErrNone)
	ask(api.MaxFlight+3, tx(get(2, 0), get(4, 0)), api.ErrBusy)
	ask(api.MaxFlight+3, tx(get(2, 0), get(4, 0)), api.ErrBusy)
	ask(api.MaxFlight+4, tx(get(4, 0)), api.ErrNone)
}

// P22.5: what was given up takes no locks any more, if what comes late of it comes behind the end.
func TestLateBehindAbort(t *testing.T) {
	for _, r := range []api.Request{tx(add(1), add(2)), move(1, 2), hops(1, 3)} {
		w := newWorld(t, 3, 1, 1)
		late := w.asksForLocks(r)
		for len(w.bag) > 0 {
			w.take(0)
		}
		for w.find(api.MsgAbort, 1) < 0 {
			w.bag = nil
			w.tick(0)
		}
		w.drain()
		w.answers(0, api.ErrAborted)
		w.deliver(late)
		w.is(1, 0, 0, 0)
		w.drain()
		w.checkPlain()
	}
}

// What was wounded, and nobody has heard of it, is told again when its lock is asked for again.
func TestWoundAgain(t *testing.T) {
	w := newWorld(t, 3, 2, 1)
	w.did(0, tx(add(1), add(2)))
	w.call(0, tx(set(1, 0, number(1)), set(2, 0, number(1))))
	w.goes(api.MsgRequest, 0)
	w.goes(api.MsgLock, 1)
	elder := w.steal(api.MsgLock, 2)
	w.call(1, tx(set(2, 0, number(2)), set(1, 0, number(2))))
	w.goes(api.MsgRequest, 1)
	w.goes(api.MsgLock, 2)
	w.steal(api.MsgGranted, 1)
	w.deliver(elder)
	w.steal(api.MsgRefused, 1)
	w.again(1)
	w.drain()
	w.answers(0, api.OK)
	w.answers(1, api.ErrAborted)
	w.checkPlain()
}
