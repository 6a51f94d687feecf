package node

import (
	"gusset/api"
	"gusset/commit"
	"gusset/wire"
)

// The kinds of records. A record is laid down as a message's bytes.
const (
	recLife     = iota + 1 // whose plate it is, and that it is in a new life
	recState               // vertices and entries, as they are
	recDecision            // a transaction that it runs is committed
	recAnswer              // a request was answered
	recEnd                 // all have applied one
	recReady               // it is ready in one in which it takes part
	recCommit              // that is committed
	recAbort               // that is aborted
)

// mostVerts is how many vertices a record has at most: with those it is never too long.
const mostVerts = 2 * api.MaxOps

// lay lays down a record; where there is no more room, all is laid down anew ahead of it.
func (n *Node) lay(m api.Msg) api.Errno {
	p, e := wire.Encode(m)
	if e == api.OK {
		e = n.journal.Append(p)
	}
	if e == api.ErrFull {
		if e = n.journal.Renew(n.snapshot()); e == api.OK {
			e = n.journal.Append(p)
		}
	}
	n.failed = n.failed || e != api.OK
	return e
}

// renew lays down all anew. Where there is no room for that nothing has been written.
func (n *Node) renew() api.Errno {
	e := n.journal.Renew(n.snapshot())
	n.failed = n.failed || e != api.OK && e != api.ErrFull
	return e
}

// lifeNow is the record of the life in which the node is.
func (n *Node) lifeNow() api.Msg {
	return api.Msg{Kind: recLife, From: n.id, Inc: n.life, Hops: n.nodes}
}

// decisionRecord is that of r, with what becomes of this node's vertices. A request that no message could bring can't be
// laid down; that it was answered can.
func (n *Node) decisionRecord(r *run) api.Msg {
	own := r.shares[n.id]
	m := api.Msg{
		Kind: recDecision, Tx: r.tx, Age: r.age, Client: r.client, Seq: r.seq, Req: r.req, Ans: r.ans,
		Verts: own.verts, Dirs: own.dirs, Nodes: n.others(r),
	}
	if _, e := wire.Encode(m); e != api.OK {
		return answerRecord(r.client, r.seq, r.ans)
	}
	return m
}

// answerRecord is that of a request that was answered.
func answerRecord(client byte, seq uint32, ans api.Answer) api.Msg {
	return api.Msg{Kind: recAnswer, Client: client, Seq: seq, Ans: ans}
}

// readyRecord is that of a part that is ready.
func readyRecord(p *part) api.Msg {
	return api.Msg{Kind: recReady, Tx: p.tx, Age: p.age, Wants: p.wants, Verts: p.verts, Dirs: p.dirs}
}

// endOfPart is the record of what has become of a part.
func endOfPart(m api.Msg) api.Msg {
	if m.Kind == api.MsgCommit {
		return api.Msg{Kind: recCommit, Tx: m.Tx}
	}
	return api.Msg{Kind: recAbort, Tx: m.Tx}
}

// snapshot is the records that tell all that the node knows.
func (n *Node) snapshot() [][]byte {
	list := []api.Msg{n.lifeNow()}
	for verts := n.Verts(); len(verts) > 0; verts = verts[min(mostVerts, len(verts)):] {
		list = append(list, api.Msg{Kind: recState, Verts: verts[:min(mostVerts, len(verts))]})
	}
	for dirs := n.Dirs(); len(dirs) > 0; dirs = dirs[min(api.MaxNodes, len(dirs)):] {
		list = append(list, api.Msg{Kind: recState, Dirs: dirs[:min(api.MaxNodes, len(dirs))]})
	}
	list = append(list, n.committed()...)
	for client := range byte(api.MaxClients) {
		if seq, ans, _ := n.sessions.Last(client); seq > 0 {
			list = append(list, answerRecord(client, seq, ans))
		}
	}
	for _, tx := range n.doubts() {
		list = append(list, readyRecord(n.parts[tx]))
	}
	var records [][]byte
	for _, m := range list {
		// What has no bytes was never laid down: a decision about a request that no message could bring.
		if p, e := wire.Encode(m); e == api.OK {
			records = append(records, p)
		}
	}
	return records
}

// committed is the records of the decisions that weren't told yet, and of those that not all have applied. What they made
// of this node's vertices is in these.
func (n *Node) committed() []api.Msg {
	var list []api.Msg
	untold := map[api.TxID]struct{}{}
	for _, d := range n.decided {
		untold[d.Tx] = struct{}{}
		list = append(list, n.decisionNow(d))
	}
	for _, tx := range inOrder(n.runs) {
		if _, told := untold[tx]; !told && n.book.Runs(tx) == commit.Committed {
			list = append(list, n.decisionNow(n.runs[tx].decision()))
		}
	}
	return list
}

// decisionNow is the record of a decision, with those that haven't applied it yet.
func (n *Node) decisionNow(d Decision) api.Msg {
	return api.Msg{
		Kind: recDecision, Tx: d.Tx, Client: d.Client, Seq: d.Seq, Req: d.Req, Ans: d.Ans, Nodes: n.book.Owing(d.Tx),
	}
}
