package node

import (
	"slices"

	"gusset/api"
	"gusset/commit"
	"gusset/credit"
	"gusset/graph"
	"gusset/own"
	"gusset/plan"
	"gusset/session"
	"gusset/span"
)

// patience is with how many ticks a transaction is given up that isn't decided yet.
const patience = 12

// share is what a node has to do with a transaction.
type share struct {
	wants []api.Want   // the locks that it is asked for
	life  uint32       // that in which it has granted them; 0: it hasn't
	verts []api.Vertex // as it holds them; behind the plan, as they are to be
	dirs  []api.Entry  // as it knows them; behind the plan, as they are to be
}

// run is a transaction that the node runs. How it stands is in the book: Unknown there, as long as locks are asked for.
type run struct {
	tx     api.TxID
	age    uint64
	client byte
	seq    uint32
	req    api.Request
	ans    api.Answer
	ticks  int
	shares [api.MaxNodes]share
	*walk  // of a traversal
}

// walk is a traversal, as its home knows it.
type walk struct {
	root  api.Msg
	pool  *credit.Pool
	been  *span.Set // the vertices that it has come to
	lives lives
}

// hear takes a message about a transaction that the node runs, or ran.
func (n *Node) hear(m api.Msg) {
	r := n.runs[m.Tx]
	if r == nil {
		n.hearOfNone(m)
		return
	}
	stands := n.book.Runs(m.Tx)
	switch m.Kind {
	case api.MsgGranted, api.MsgVisited, api.MsgQuery:
		// Whoever asks, or has granted what it was asked for long ago, hasn't heard of the decision.
		if stands == commit.Committed {
			n.send(m.From, api.Msg{Kind: api.MsgCommit, Tx: m.Tx})
		}
		if stands == commit.Unknown {
			n.grows(r, m)
		}
	case api.MsgRefused:
		if stands != commit.Committed {
			n.giveUp(r, m.Ans.E)
		}
	case api.MsgYes, api.MsgNo:
		if stands == commit.Open {
			n.vote(r, m)
		}
	case api.MsgDone:
		if all, e := n.book.Applied(m.Tx, m.From); e == api.OK && all {
			n.end(r)
		}
	}
}

// hearOfNone answers those who hold something for a transaction that isn't run: all have applied it, or nobody will.
func (n *Node) hearOfNone(m api.Msg) {
	switch m.Kind {
	case api.MsgGranted, api.MsgVisited, api.MsgYes, api.MsgQuery:
		n.send(m.From, api.Msg{Kind: api.MsgAbort, Tx: m.Tx})
	}
}

// request runs what a client asks, goes on with it if it runs, and answers it again if it was answered.
func (n *Node) request(m api.Msg) {
	stands, ans, e := n.sessions.Ask(m.Client, m.Seq)
	if e != api.OK {
		return
	}
	r := n.runOf(m.Client, m.Seq)
	switch {
	case r != nil:
		n.push(r)
	case stands == session.Done:
		n.answer(m.Client, m.Seq, ans)
	case stands == session.Fresh && n.sessions.Start(m.Client, m.Seq) == api.OK:
		n.start(m)
	}
}

// runOf is the run of a client's request; nil: there is none.
func (n *Node) runOf(client byte, seq uint32) *run {
	for _, tx := range inOrder(n.runs) {
		if r := n.runs[tx]; r.client == client && r.seq == seq {
			return r
		}
	}
	return nil
}

// start begins with a request that is new.
func (n *Node) start(m api.Msg) {
	r := &run{client: m.Client, seq: m.Seq, req: m.Req}
	if e := graph.Check(m.Req); e != api.OK {
		// It is answered as the graph answers it, which takes no locks.
		r.tx, r.ans = n.name(), api.Answer{E: e}
		n.decide(r)
		return
	}
	if len(n.runs) >= api.MaxFlight {
		n.refuse(r, api.ErrBusy)
		return
	}
	r.tx, r.age = n.name(), n.clock.Tick()
	n.runs[r.tx] = r
	n.needs(r)
	n.push(r)
}

// name is the name of a new transaction.
func (n *Node) name() api.TxID {
	n.begun++
	return api.TxID{Node: n.id, Inc: n.life, Seq: n.begun}
}

// needs notes what is to be asked for, and of whom.
func (n *Node) needs(r *run) {
	switch r.req.Kind {
	case api.ReqTx:
		wants, _ := plan.Wants(r.req.Ops)
		for node, list := range n.groups(wants) {
			r.shares[node].wants = list
		}
	case api.ReqMove:
		for node := range n.nodes {
			r.shares[node].wants = []api.Want{{V: r.req.V, Mode: api.Exclusive}}
		}
	case api.ReqHops:
		r.walk = &walk{pool: credit.New(), been: span.New()}
		r.root = api.Msg{
			Kind: api.MsgFrontier, Tx: r.tx, Age: r.age, Num: n.number(), Credit: credit.Whole, Hops: r.req.K,
			Wants: []api.Want{{V: r.req.V, Mode: api.Shared}}, Dirs: []api.Entry{{Owner: n.id, Epoch: n.life}},
		}
	}
}

// groups is the wants of vertices that there can be by their owners.
func (n *Node) groups(wants []api.Want) [][]api.Want {
	var owners []byte
	for _, w := range wants {
		entry, _ := n.dir.Owner(w.V)
		owners = append(owners, entry.Owner)
	}
	list, _ := plan.Groups(wants, owners)
	return list
}

// push sends what r is waiting for the answer to, be it for the first time or again.
func (n *Node) push(r *run) {
	owing := n.book.Owing(r.tx)
	switch n.book.Runs(r.tx) {
	case commit.Unknown:
		n.ask(r)
	case commit.Open:
		for _, node := range owing {
			s := r.shares[node]
			n.send(node, api.Msg{Kind: api.MsgPrepare, Tx: r.tx, Inc: s.life, Verts: s.verts, Dirs: s.dirs})
		}
	case commit.Committed:
		for _, node := range owing {
			n.send(node, api.Msg{Kind: api.MsgCommit, Tx: r.tx})
		}
	}
}

// ask sends for the locks that aren't granted yet. Of a traversal's messages those that are lost can't be told: they are
// all sent again, each by who has sent it.
func (n *Node) ask(r *run) {
	if r.walk != nil {
		owner, _ := n.dir.Owner(r.req.V)
		n.send(owner.Owner, r.root)
		return
	}
	for node, s := range r.shares {
		if len(s.wants) > 0 && s.life == 0 {
			n.send(byte(node), api.Msg{Kind: api.MsgLock, Tx: r.tx, Age: r.age, Req: lockFor(r), Wants: s.wants})
		}
	}
}

// lockFor tells of a move that it is one: it holds its vertex at all nodes, whoever owns it.
func lockFor(r *run) api.Request {
	if r.req.Kind != api.ReqMove {
		return api.Request{}
	}
	return r.req
}

// grows takes what a node has granted, and plans when all is there.
func (n *Node) grows(r *run, m api.Msg) {
	switch {
	case m.Kind == api.MsgVisited && r.walk != nil:
		n.visited(r, m)
	case m.Kind == api.MsgGranted && len(r.shares[m.From].wants) > 0:
		s := &r.shares[m.From]
		if m.Inc < s.life {
			return
		}
		// A node that has come up anew has nothing of what it granted; what it grants now is as good.
		s.life, s.verts, s.dirs = m.Inc, m.Verts, m.Dirs
		if !slices.ContainsFunc(r.shares[:], func(s share) bool { return len(s.wants) > 0 && s.life == 0 }) {
			n.plan(r)
		}
	}
}

// visited takes back the credit of one of a traversal's messages.
func (n *Node) visited(r *run, m api.Msg) {
	if len(m.Nodes) != 1 {
		return
	}
	first, e := false, api.ErrAborted
	if r.lives.agree(m.Dirs) {
		first, e = r.pool.Back(m.Nodes[0], m.Num, m.Credit)
	}
	switch {
	case e != api.OK:
		n.giveUp(r, api.ErrAborted)
	case first:
		r.shares[m.From].life = m.Inc
		for _, v := range m.Ans.List {
			r.been.Add(v, v)
		}
		if r.pool.Done() {
			n.plan(r)
		}
	}
}

// plan makes of what was granted the answer, and what is to become of the vertices, and asks all for their vote.
func (n *Node) plan(r *run) {
	ok := false
	switch r.req.Kind {
	case api.ReqTx:
		ok = n.planTx(r)
	case api.ReqMove:
		ok = n.planMove(r)
	case api.ReqHops:
		r.ans, ok = r.walk.answer(r.req.V), true
	}
	if !ok || n.book.Begin(r.tx, r.nodes()) != api.OK {
		n.giveUp(r, api.ErrAborted)
		return
	}
	n.push(r)
}

// nodes is those that take part.
func (r *run) nodes() []byte {
	var list []byte
	for node, s := range r.shares {
		if s.life != 0 {
			list = append(list, byte(node))
		}
	}
	return list
}

// planTx does the operations; false: they can't be done with what was granted.
func (n *Node) planTx(r *run) bool {
	var verts []api.Vertex
	for i := range r.shares {
		verts = append(verts, r.shares[i].verts...)
		r.shares[i].verts, r.shares[i].dirs = nil, nil
	}
	ans, changed, e := plan.Run(verts, r.req.Ops)
	if e != api.OK {
		return false
	}
	r.ans = ans
	for _, v := range changed {
		for i := range r.shares {
			s := &r.shares[i]
			if slices.ContainsFunc(s.wants, func(w api.Want) bool { return w.V == v.ID }) {
				s.verts = append(s.verts, v)
			}
		}
	}
	return true
}

// planMove takes the vertex from who owns it to where it moves, if there is that node; false: the nodes don't know of one
// owner.
func (n *Node) planMove(r *run) bool {
	first := r.shares[0]
	if len(first.dirs) != 1 {
		return false
	}
	entry := first.dirs[0]
	var verts []api.Vertex
	for i := range n.nodes {
		s := &r.shares[i]
		if len(s.dirs) != 1 || s.dirs[0] != entry {
			return false
		}
		verts = append(verts, s.verts...)
		s.verts, s.dirs = nil, nil
	}
	if len(verts) != 1 || entry.V != r.req.V || verts[0].ID != r.req.V || int(entry.Owner) >= n.nodes {
		return false
	}
	switch {
	case !verts[0].There:
		r.ans = api.Answer{E: api.ErrNone}
	case r.req.To < n.nodes:
		for i := range n.nodes {
			r.shares[i].dirs = []api.Entry{{V: r.req.V, Owner: byte(r.req.To), Epoch: entry.Epoch + 1}}
		}
		r.shares[entry.Owner].verts = []api.Vertex{{ID: r.req.V}}
		r.shares[r.req.To].verts = verts
	}
	return true
}

// answer is that of a traversal that began at v and has come to its end.
func (w *walk) answer(v uint32) api.Answer {
	if !w.been.Has(v) {
		return api.Answer{E: api.ErrNone}
	}
	var list []uint32
	for _, s := range w.been.Spans() {
		for far := s.From; far <= s.To && far <= api.MaxVertex; far++ {
			list = append(list, far)
		}
	}
	return api.Answer{List: list}
}

// vote takes a vote, and decides where it was the last one.
func (n *Node) vote(r *run, m api.Msg) {
	stands, e := n.book.Vote(r.tx, m.From, m.Kind == api.MsgYes)
	switch {
	case e != api.OK:
	case stands == commit.Committed:
		n.decide(r)
	case stands == commit.Aborted:
		n.giveUp(r, api.ErrAborted)
	}
}

// decide lays down the decision: with that r is committed.
func (n *Node) decide(r *run) {
	if n.lay(n.decisionRecord(r)) != api.OK {
		return
	}
	n.book.Commit(r.tx)
	n.sessions.Finish(r.client, r.seq, r.ans)
	n.decided = append(n.decided, r.decision())
	if p := n.parts[r.tx]; p != nil {
		n.conclude(p, commit.Committed)
		n.book.Applied(r.tx, n.id)
	}
	n.push(r)
	if len(n.book.Owing(r.tx)) == 0 {
		n.end(r)
	}
}

// decision is r as it is told.
func (r *run) decision() Decision {
	return Decision{r.tx, r.client, r.seq, own.Request(r.req), own.Answer(r.ans)}
}

// end ends r, which all have applied. Not ahead of that it is answered: so a client that has its answer needs never ask
// for the sake of others.
func (n *Node) end(r *run) {
	if len(n.others(r)) > 0 && n.lay(api.Msg{Kind: recEnd, Tx: r.tx}) != api.OK {
		return
	}
	delete(n.runs, r.tx)
	n.answer(r.client, r.seq, r.ans)
}

// others is the nodes beside this one that take part in r.
func (n *Node) others(r *run) []byte {
	return slices.DeleteFunc(r.nodes(), func(node byte) bool { return node == n.id })
}

// giveUp gives r up, which isn't decided: nothing of it has happened, nor ever will.
func (n *Node) giveUp(r *run, e api.Errno) {
	if e != api.ErrBusy {
		e = api.ErrAborted
	}
	if !n.refuse(r, e) {
		return
	}
	delete(n.runs, r.tx)
	for node := range n.nodes {
		if r.walk != nil || len(r.shares[node].wants) > 0 {
			n.send(byte(node), api.Msg{Kind: api.MsgAbort, Tx: r.tx})
		}
	}
}

// refuse answers r with an error, for good: it is laid down, lest a message that comes late has it done.
func (n *Node) refuse(r *run, e api.Errno) bool {
	ans := api.Answer{E: e}
	if n.lay(answerRecord(r.client, r.seq, ans)) != api.OK {
		return false
	}
	n.sessions.Finish(r.client, r.seq, ans)
	n.answer(r.client, r.seq, ans)
	return true
}

// answer answers a client.
func (n *Node) answer(client byte, seq uint32, ans api.Answer) {
	n.outbox = append(n.outbox, api.Msg{Kind: api.MsgAnswer, From: n.id, Client: client, Seq: seq, Ans: ans})
}

// age lets time go by for a transaction. A traversal that has lost messages takes them all to go on: these are sent again
// when the client asks again, and not at each tick, too.
func (n *Node) age(r *run) {
	r.ticks++
	stands := n.book.Runs(r.tx)
	switch {
	case stands != commit.Committed && r.ticks >= patience:
		n.giveUp(r, api.ErrAborted)
	case stands != commit.Unknown || r.walk == nil:
		n.push(r)
	}
}
