package node

import (
	"errors"
	"slices"

	"gusset/api"
	"gusset/commit"
	"gusset/fault"
	"gusset/graph"
	"gusset/span"
)

// part is a transaction in which the node takes part. How it stands is in the book: Unknown there, up to where it has
// voted yes.
type part struct {
	tx    api.TxID
	age   uint64
	move  bool
	waits bool
	wants []api.Want // what it asked for last; where it is ready, all that it holds
	verts []api.Vertex
	dirs  []api.Entry
	*trail
}

// past is what is known of a node's transactions that are over: all of earlier lives, and some of its life. What comes
// late for one of those takes no locks any more.
type past struct {
	life uint32
	over *span.Set
}

// takePart takes a message about a transaction in which the node takes part, or is to.
func (n *Node) takePart(m api.Msg) {
	n.learn(m.Tx)
	switch m.Kind {
	case api.MsgLock, api.MsgFrontier:
		switch {
		case n.book.Stands(m.Tx) != commit.Unknown:
		case !n.isOver(m.Tx):
			n.join(m)
		case m.Tx.Node != n.id:
			n.tellRefused(m.Tx, api.ErrAborted)
		}
	case api.MsgPrepare:
		n.prepare(m)
	case api.MsgCommit, api.MsgAbort:
		n.hearEnd(m)
	}
}

// learn notes in which life another node is. What it ran in an earlier one, and wasn't decided then, never will be.
func (n *Node) learn(tx api.TxID) {
	its := &n.past[tx.Node]
	if tx.Node == n.id || tx.Inc <= its.life {
		return
	}
	its.life, its.over = tx.Inc, span.New()
	for _, old := range inOrder(n.parts) {
		if old.Node == tx.Node && old.Inc < tx.Inc && n.book.Stands(old) == commit.Unknown {
			n.drop(n.parts[old])
		}
	}
}

// isOver tells whether no locks are to be taken for tx any more.
func (n *Node) isOver(tx api.TxID) bool {
	if tx.Node == n.id {
		return n.runs[tx] == nil || n.book.Runs(tx) != commit.Unknown
	}
	its := &n.past[tx.Node]
	return tx.Inc < its.life || its.over.Has(tx.Seq)
}

// join asks for the locks that a message wants.
func (n *Node) join(m api.Msg) {
	p := n.parts[m.Tx]
	switch {
	case m.Kind == api.MsgFrontier:
		n.comeTo(p, m)
	case p == nil:
		p = &part{tx: m.Tx, age: m.Age, move: m.Req.Kind == api.ReqMove}
		n.parts[p.tx] = p
		n.want(p, m.Wants)
	case !p.waits:
		n.tellGranted(p)
	}
}

// want asks for locks of vertices that the node owns.
func (n *Node) want(p *part, wants []api.Want) {
	p.wants = wants
	if !n.lends(p) {
		return
	}
	p.waits = true
	granted, wounded, e := n.locks.Ask(p.tx, p.age, wants)
	for _, tx := range wounded {
		n.turnDown(n.parts[tx], api.ErrAborted)
	}
	n.granted = append(n.granted, granted...)
	switch e {
	case api.OK:
	case api.ErrFull:
		n.turnDown(p, api.ErrBusy)
	default:
		n.turnDown(p, api.ErrAborted)
	}
}

// lends tells whether the node may lend the vertices that p wants. Whoever asks for one that is another node's is told,
// for it may have moved; one that there can't be nobody asks for.
func (n *Node) lends(p *part) bool {
	err := n.disowned(p)
	if errors.Is(err, api.ErrNone) {
		n.turnDown(p, api.ErrAborted)
	} else if err != nil {
		n.drop(p)
	}
	return err == nil
}

// disowned is what stands against it that the node lends the vertices that p wants.
func (n *Node) disowned(p *part) error {
	var faults []error
	for i, w := range p.wants {
		entry, e := n.dir.Owner(w.V)
		if e == api.OK && !p.move {
			e = n.dir.Check(w.V, n.id, entry.Epoch)
		}
		faults = append(faults, fault.New(e, i, w.V))
	}
	return fault.Join(faults)
}

// gets tells of locks that were granted, if they are still there, and the vertices still the node's: whoever waited may
// have waited for a move.
func (n *Node) gets(tx api.TxID) {
	p := n.parts[tx]
	if p == nil || !p.waits {
		return
	}
	p.waits = false
	if !n.lends(p) {
		return
	}
	for _, w := range p.wants {
		if entry, _ := n.dir.Owner(w.V); entry.Owner == n.id {
			n.served = append(n.served, entry)
		}
	}
	if p.trail != nil {
		n.goOn(p)
		return
	}
	n.tellGranted(p)
}

// tellGranted tells what p's vertices are. Of a move all tell who owns its vertex.
func (n *Node) tellGranted(p *part) {
	m := api.Msg{Kind: api.MsgGranted, Tx: p.tx, Inc: n.life}
	for _, w := range p.wants {
		entry, _ := n.dir.Owner(w.V)
		if entry.Owner == n.id {
			v, _ := n.store.Get(w.V)
			m.Verts = append(m.Verts, v)
		}
		if p.move {
			m.Dirs = append(m.Dirs, entry)
		}
	}
	n.send(p.tx.Node, m)
}

// turnDown lets p go, and tells so.
func (n *Node) turnDown(p *part, e api.Errno) {
	n.drop(p)
	n.tellRefused(p.tx, e)
}

// tellRefused tells that a transaction's locks aren't held, and won't be.
func (n *Node) tellRefused(tx api.TxID, e api.Errno) {
	n.send(tx.Node, api.Msg{Kind: api.MsgRefused, Tx: tx, Ans: api.Answer{E: e}})
}

// drop lets go of what p holds, for good.
func (n *Node) drop(p *part) {
	granted, _ := n.locks.Release(p.tx)
	n.granted = append(n.granted, granted...)
	delete(n.parts, p.tx)
	n.noteOver(p.tx)
}

// noteOver notes that tx is over here.
func (n *Node) noteOver(tx api.TxID) {
	its := &n.past[tx.Node]
	if tx.Node != n.id && tx.Inc == its.life {
		its.over.Add(tx.Seq, tx.Seq)
	}
}

// prepare votes: yes, if all that was granted in this life is still held; it is held from then on, whatever comes.
func (n *Node) prepare(m api.Msg) {
	p, vote := n.parts[m.Tx], byte(api.MsgNo)
	switch n.book.Stands(m.Tx) {
	case commit.Held:
		vote = api.MsgYes
	case commit.Unknown:
		switch {
		case p == nil:
		case p.waits || m.Inc != n.life || !n.mayBecome(p, m):
			n.drop(p)
		case n.ready(p, m):
			vote = api.MsgYes
		}
	default:
		return // its home knows: it has decided
	}
	n.send(m.From, api.Msg{Kind: vote, Tx: m.Tx})
}

// mayBecome tells whether p holds what it would change, and whether that could be.
func (n *Node) mayBecome(p *part, m api.Msg) bool {
	held := n.locks.Locks(p.tx)
	for _, v := range m.Verts {
		if graph.New().Put(v) != api.OK || !slices.Contains(held, api.Want{V: v.ID, Mode: api.Exclusive}) {
			return false
		}
	}
	for _, d := range m.Dirs {
		if int(d.Owner) >= n.nodes || d.Epoch == 0 || !slices.Contains(held, api.Want{V: d.V, Mode: api.Exclusive}) {
			return false
		}
	}
	return true
}

// ready lays down that p is ready. Of what the node runs itself the decision alone is laid down.
func (n *Node) ready(p *part, m api.Msg) bool {
	p.wants, p.verts, p.dirs = n.locks.Locks(p.tx), m.Verts, m.Dirs
	if p.tx.Node != n.id && n.lay(readyRecord(p)) != api.OK {
		return false
	}
	n.book.Take(p.tx)
	n.locks.Hold(p.tx)
	return true
}

// hearEnd hears what has become of a transaction. One that is committed, and of which nothing is held here, was applied.
func (n *Node) hearEnd(m api.Msg) {
	p := n.parts[m.Tx]
	switch {
	case p == nil:
		n.noteOver(m.Tx)
	case n.book.Stands(m.Tx) != commit.Held:
		n.drop(p)
	default:
		if m.Tx.Node != n.id && n.lay(endOfPart(m)) != api.OK {
			return
		}
		n.conclude(p, becomes(m.Kind))
	}
	if m.Kind == api.MsgCommit {
		n.send(m.From, api.Msg{Kind: api.MsgDone, Tx: m.Tx})
	}
}

// becomes is how a transaction stands behind a message of that kind.
func becomes(kind byte) int {
	if kind == api.MsgCommit {
		return commit.Committed
	}
	return commit.Aborted
}

// conclude ends a part that is held.
func (n *Node) conclude(p *part, stands int) {
	n.book.Settle(p.tx, stands)
	switch stands {
	case commit.Committed:
		n.apply(p.verts, p.dirs)
		fallthrough
	case commit.Aborted:
		n.drop(p)
	}
}

// apply makes vertices and entries what they are to be.
func (n *Node) apply(verts []api.Vertex, dirs []api.Entry) {
	for _, v := range verts {
		n.store.Put(v)
	}
	for _, d := range dirs {
		n.dir.Move(d.V, d.Owner, d.Epoch)
	}
}
