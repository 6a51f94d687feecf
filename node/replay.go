package node

import (
	"math"

	"gusset/api"
	"gusset/commit"
	"gusset/graph"
	"gusset/wire"
)

// replay does what a record tells; false: no node has laid it down here.
func (n *Node) replay(p []byte) bool {
	m, e := wire.Decode(p)
	if e != api.OK || int(m.Tx.Node) >= n.nodes || n.life == 0 && m.Kind != recLife {
		return false
	}
	n.clock.See(m.Age)
	switch m.Kind {
	case recLife:
		return n.replayLife(m)
	case recState:
		return n.replayState(m)
	case recDecision:
		if !n.replayDecision(m) {
			return false
		}
		fallthrough
	case recAnswer:
		// Of two answers to one client the later one stays, in whatever order they were laid down anew.
		e = n.sessions.Finish(m.Client, m.Seq, m.Ans)
		return e == api.OK || e == api.ErrState
	case recEnd:
		delete(n.runs, m.Tx)
		return true
	case recReady:
		return n.replayReady(m)
	case recCommit, recAbort:
		return n.replayEnd(m)
	}
	return false
}

// replayLife begins a life, of this node alone.
func (n *Node) replayLife(m api.Msg) bool {
	if m.From != n.id || m.Hops != n.nodes || m.Inc < max(n.life, 1) || m.Inc == math.MaxUint32 {
		return false
	}
	n.life = m.Inc
	return true
}

// replayState makes vertices and entries what they were.
func (n *Node) replayState(m api.Msg) bool {
	for _, v := range m.Verts {
		if graph.New().Put(v) != api.OK {
			return false
		}
	}
	for _, d := range m.Dirs {
		if entry, e := n.dir.Owner(d.V); e != api.OK || int(d.Owner) >= n.nodes || d.Epoch <= entry.Epoch {
			return false
		}
	}
	n.apply(m.Verts, m.Dirs)
	return true
}

// replayDecision commits a transaction, and runs it on where there are others that take part.
func (n *Node) replayDecision(m api.Msg) bool {
	if m.Tx.Node != n.id || m.Tx.Inc > n.life || !n.replayState(m) {
		return false
	}
	r := &run{tx: m.Tx, age: m.Age, client: m.Client, seq: m.Seq, req: m.Req, ans: m.Ans}
	n.decided = append(n.decided, r.decision())
	if len(m.Nodes) == 0 {
		return true
	}
	if n.book.Begin(m.Tx, m.Nodes) != api.OK {
		return false
	}
	for _, node := range m.Nodes {
		if int(node) >= n.nodes || node == n.id {
			return false
		}
		n.book.Vote(m.Tx, node, true)
		r.shares[node].life = 1 // whichever it was: it has voted
	}
	n.runs[m.Tx] = r
	return n.book.Commit(m.Tx) == api.OK
}

// replayReady holds the locks of a transaction in which the node takes part.
func (n *Node) replayReady(m api.Msg) bool {
	if m.Tx.Node == n.id || n.book.Take(m.Tx) != api.OK {
		return false
	}
	n.learn(m.Tx)
	p := &part{tx: m.Tx, age: m.Age, wants: m.Wants, verts: m.Verts, dirs: m.Dirs}
	granted, wounded, e := n.locks.Ask(p.tx, p.age, p.wants)
	if e != api.OK || len(granted) != 1 || len(wounded) > 0 || !n.mayBecome(p, m) {
		return false
	}
	n.parts[p.tx] = p
	return n.locks.Hold(p.tx) == api.OK
}

// replayEnd ends a part that was ready.
func (n *Node) replayEnd(m api.Msg) bool {
	p := n.parts[m.Tx]
	if p == nil {
		return false
	}
	if m.Kind == recCommit {
		n.conclude(p, commit.Committed)
	} else {
		n.conclude(p, commit.Aborted)
	}
	return true
}
