package graph

import (
	"gusset/api"
	"gusset/fault"
	"gusset/own"
)

// run does the operations, one behind the other, until one is refused. It answers what they read, or who was refused.
func (g *Graph) run(ops []api.Op) ([]api.Value, error) {
	var vals []api.Value
	for at, op := range ops {
		if e := fault.New(g.refusal(op), at, op.A); e != nil {
			return nil, e
		}
		if val, reads := g.read(op); reads {
			vals = append(vals, val)
		}
		g.change(op)
	}
	return vals, nil
}

// refusal is why op is refused, of several reasons the one that its kind looks at first.
func (g *Graph) refusal(op api.Op) api.Errno {
	switch op.Kind {
	case api.OpAdd:
		return when(g.there(op.A), api.ErrExists)
	case api.OpCut, api.OpEdge:
		return when(!g.joined(op.A, op.B), api.ErrNone)
	}
	if !g.there(op.A) {
		return api.ErrNone
	}
	switch op.Kind {
	case api.OpDel:
		return when(len(g.edges[op.A]) > 0, api.ErrEdges)
	case api.OpNeed:
		return when(g.props[op.A][op.Key] != op.Val, api.ErrState)
	case api.OpJoin:
		return g.refusalOfJoin(op.A, op.B)
	}
	return api.OK
}

// refusalOfJoin is why the vertex a, which is there, can't be joined with b.
func (g *Graph) refusalOfJoin(a, b uint32) api.Errno {
	if !g.there(b) {
		return api.ErrNone
	}
	if g.joined(a, b) {
		return api.ErrExists
	}
	return when(g.isFull(a) || g.isFull(b), api.ErrFull)
}

// when is e where it applies.
func when(applies bool, e api.Errno) api.Errno {
	if applies {
		return e
	}
	return api.OK
}

// joined tells whether a has an edge to b. Of what was put together from parts a's side alone is asked, as b may be elsewhere.
func (g *Graph) joined(a, b uint32) bool {
	_, ok := g.edges[a][b]
	return ok
}

// isFull tells whether v has as many edges as it may have.
func (g *Graph) isFull(v uint32) bool {
	return len(g.edges[v]) >= api.MaxHalves
}

// read is what op reads; false: it reads nothing.
func (g *Graph) read(op api.Op) (api.Value, bool) {
	switch op.Kind {
	case api.OpGet:
		return own.Value(g.props[op.A][op.Key]), true
	case api.OpEdge:
		return own.Value(g.edges[op.A][op.B]), true
	case api.OpDegree:
		return api.Value{Kind: api.Int, N: int64(len(g.edges[op.A]))}, true
	}
	return api.Value{}, false
}

// change does what op, which is not refused, changes.
func (g *Graph) change(op api.Op) {
	switch op.Kind {
	case api.OpAdd:
		g.hold(api.Vertex{ID: op.A, There: true})
	case api.OpDel:
		g.hold(api.Vertex{ID: op.A})
	case api.OpSet:
		g.set(op.A, op.Key, op.Val)
	case api.OpJoin:
		g.edges[op.A][op.B] = own.Value(op.Val)
		g.edges[op.B][op.A] = own.Value(op.Val)
	case api.OpCut:
		delete(g.edges[op.A], op.B)
		delete(g.edges[op.B], op.A)
	}
}

// set gives v, which is there, the property; with None it takes it away.
func (g *Graph) set(v uint32, key byte, val api.Value) {
	if val.Kind == api.None {
		delete(g.props[v], key)
		return
	}
	g.props[v][key] = own.Value(val)
}
