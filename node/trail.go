package node

import (
	"slices"

	"gusset/api"
	"gusset/credit"
	"gusset/plan"
)

// trail is a traversal, as it has come to one of its nodes.
type trail struct {
	visits []*visit
	left   map[uint32]int // of each vertex from which it went on, how many hops were left at most
	lives  lives
}

// lives is of each node the life in which it sent what a traversal rests on; 0: nothing rests on it. What a node was in an
// earlier life it has forgotten, and holds no more: what rests on two lives of one node can't be held together, be it
// that the one message only made the other one superfluous.
type lives [api.MaxNodes]uint32

// visit is one message with which it has come, and what was sent upon that. If the message comes again, so does that:
// what was lost of it is made good.
type visit struct {
	api.Msg
	sent []api.Msg // none: it hasn't gone on yet
}

// agree notes lives; false: of one of these nodes another life is known.
func (l *lives) agree(list []api.Entry) bool {
	for _, its := range list {
		if its.Owner >= api.MaxNodes {
			return false
		}
		if l[its.Owner] == 0 {
			l[its.Owner] = its.Epoch
		}
		if l[its.Owner] != its.Epoch {
			return false
		}
	}
	return true
}

// list is the lives as a message has them.
func (l *lives) list() []api.Entry {
	var list []api.Entry
	for node, life := range l {
		if life != 0 {
			list = append(list, api.Entry{Owner: byte(node), Epoch: life})
		}
	}
	return list
}

// number is a new number of a message that the node sends for a traversal, of which none has been in any of its lives.
func (n *Node) number() uint64 {
	n.sent++
	return uint64(n.life)<<32 | uint64(n.sent)
}

// comeTo takes a message with which a traversal comes; p is nil if it comes for the first time.
func (n *Node) comeTo(p *part, m api.Msg) {
	if len(m.Wants) == 0 || m.Hops < 0 || m.Hops > api.MaxHops {
		return
	}
	if p == nil {
		p = &part{tx: m.Tx, age: m.Age, trail: &trail{left: map[uint32]int{}}}
		p.lives[n.id] = n.life
		n.parts[p.tx] = p
	}
	if p.trail == nil {
		return
	}
	for _, v := range p.visits {
		if v.From == m.From && v.Num == m.Num {
			n.sendAll(v.sent)
			return
		}
	}
	if !p.lives.agree(m.Dirs) {
		n.turnDown(p, api.ErrAborted)
		return
	}
	p.visits = append(p.visits, &visit{Msg: m})
	if !p.waits {
		n.goOn(p)
	}
}

// goOn goes on from all vertices to which the traversal has come, or asks for their locks first.
func (n *Node) goOn(p *part) {
	var open []*visit
	for _, v := range p.visits {
		if v.sent == nil {
			open = append(open, v)
		}
	}
	if wants := n.unheld(p, open); len(wants) > 0 {
		n.want(p, wants)
		return
	}
	for _, v := range open {
		if !n.goFrom(p, v) {
			n.turnDown(p, api.ErrAborted)
			return
		}
		n.sendAll(v.sent)
	}
}

// unheld is the wants of the visits that p doesn't hold yet.
func (n *Node) unheld(p *part, list []*visit) []api.Want {
	held := n.locks.Locks(p.tx)
	var wants []api.Want
	for _, v := range list {
		for _, w := range v.Wants {
			w.Mode = api.Shared
			if !slices.Contains(held, w) && !slices.Contains(wants, w) {
				wants = append(wants, w)
			}
		}
	}
	return wants
}

// goFrom makes of a visit what is to be sent: to each owner of vertices further on a message with a share of its credit,
// and the rest home. The vertices that are reached with the last hop aren't gone to: what is known of them is that there
// is an edge, which is held at this end. False: the credit doesn't last.
func (n *Node) goFrom(p *part, v *visit) bool {
	from := n.fresh(p, v)
	fars, _ := plan.Frontier(from)
	var been []uint32
	for _, w := range v.Wants {
		if _, there := n.store.Get(w.V); there {
			been = append(been, w.V)
		}
	}
	switch v.Hops {
	case 1:
		been = append(been, fars...)
		fallthrough
	case 0:
		fars = nil
	}
	var wants []api.Want
	for _, far := range fars {
		wants = append(wants, api.Want{V: far, Mode: api.Shared})
	}
	further := api.Msg{Kind: api.MsgFrontier, Tx: p.tx, Age: p.age, Hops: v.Hops - 1, Dirs: p.lives.list()}
	return n.split(v, further, n.groups(wants), been)
}

// fresh is those vertices of a visit from which the traversal hasn't gone on yet with as many hops left.
func (n *Node) fresh(p *part, v *visit) []api.Vertex {
	var list []api.Vertex
	for _, w := range v.Wants {
		vertex, there := n.store.Get(w.V)
		if left, known := p.left[w.V]; !there || known && left >= v.Hops {
			continue
		}
		p.left[w.V] = v.Hops
		list = append(list, vertex)
	}
	return list
}

// split shares a visit's credit out among the messages that go further, one to each node that has a group, and the one
// that goes home.
func (n *Node) split(v *visit, further api.Msg, groups [][]api.Want, been []uint32) bool {
	m := 0
	for _, group := range groups {
		m += min(len(group), 1)
	}
	share, rest, e := credit.Split(v.Credit, m)
	if e != api.OK {
		return false
	}
	for node, group := range groups {
		if len(group) > 0 {
			further.To, further.Num, further.Credit, further.Wants = byte(node), n.number(), share, group
			v.sent = append(v.sent, further)
		}
	}
	slices.Sort(been)
	v.sent = append(v.sent, api.Msg{
		Kind: api.MsgVisited, To: v.Tx.Node, Tx: v.Tx, Inc: n.life, Nodes: []byte{v.From}, Num: v.Num, Credit: rest,
		Dirs: further.Dirs, Ans: api.Answer{List: slices.Compact(been)},
	})
	return true
}

// sendAll sends messages to whom they say.
func (n *Node) sendAll(list []api.Msg) {
	for _, m := range list {
		n.send(m.To, m)
	}
}
