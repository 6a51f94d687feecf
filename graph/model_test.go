package graph_test

import (
	"math/rand"
	"reflect"
	"testing"

	"gusset/api"
	"gusset/graph"
)

// model is a graph by arrays: a copy of it is one of its own.
type model struct {
	there [api.MaxVertex + 1]bool
	props [api.MaxVertex + 1][api.MaxKey + 1]api.Value
	edge  [api.MaxVertex + 1][api.MaxVertex + 1]bool
	val   [api.MaxVertex + 1][api.MaxVertex + 1]api.Value
}

func (m *model) degree(v uint32) int {
	n := 0
	for _, is := range m.edge[v] {
		if is {
			n++
		}
	}
	return n
}

// op does one operation, and answers why it is refused or what it reads.
func (m *model) op(op api.Op) (api.Errno, []api.Value) {
	a, b := op.A, op.B
	switch op.Kind {
	case api.OpAdd:
		if m.there[a] {
			return api.ErrExists, nil
		}
		m.there[a] = true
		return api.OK, nil
	case api.OpCut:
		if !m.edge[a][b] {
			return api.ErrNone, nil
		}
		m.edge[a][b], m.edge[b][a] = false, false
		return api.OK, nil
	case api.OpEdge:
		if !m.edge[a][b] {
			return api.ErrNone, nil
		}
		return api.OK, []api.Value{m.val[a][b]}
	}
	if !m.there[a] {
		return api.ErrNone, nil
	}
	switch op.Kind {
	case api.OpDel:
		if m.degree(a) > 0 {
			return api.ErrEdges, nil
		}
		m.there[a] = false
		m.props[a] = [api.MaxKey + 1]api.Value{}
	case api.OpSet:
		m.props[a][op.Key] = op.Val
	case api.OpGet:
		return api.OK, []api.Value{m.props[a][op.Key]}
	case api.OpNeed:
		if m.props[a][op.Key] != op.Val {
			return api.ErrState, nil
		}
	case api.OpDegree:
		return api.OK, []api.Value{{Kind: api.Int, N: int64(m.degree(a))}}
	case api.OpJoin:
		if !m.there[b] {
			return api.ErrNone, nil
		}
		if m.edge[a][b] {
			return api.ErrExists, nil
		}
		if m.degree(a) == api.MaxHalves || m.degree(b) == api.MaxHalves {
			return api.ErrFull, nil
		}
		m.edge[a][b], m.edge[b][a] = true, true
		m.val[a][b], m.val[b][a] = op.Val, op.Val
	}
	return api.OK, nil
}

// do answers a request in form.
func (m *model) do(r api.Request) api.Answer {
	if r.Kind == api.ReqTx {
		next := *m
		var vals []api.Value
		for at, op := range r.Ops {
			e, read := next.op(op)
			if e != api.OK {
				return api.Answer{E: e, At: at}
			}
			vals = append(vals, read...)
		}
		*m = next
		return api.Answer{Vals: vals}
	}
	if !m.there[r.V] {
		return api.Answer{E: api.ErrNone}
	}
	if r.Kind == api.ReqMove {
		return api.Answer{}
	}
	return api.Answer{List: m.within(r.V, r.K)}
}

// within is the vertices that are at most k edges from v: those beside whom is one that is at most k - 1 from it.
func (m *model) within(v uint32, k int) []uint32 {
	var near [api.MaxVertex + 1]bool
	near[v] = true
	for range k {
		was := near
		for a := range was {
			for b := range was {
				near[b] = near[b] || was[a] && m.edge[a][b]
			}
		}
	}
	var list []uint32
	for b, is := range near {
		if is {
			list = append(list, uint32(b))
		}
	}
	return list
}

func (m *model) vertex(v uint32) api.Vertex {
	vertex := api.Vertex{ID: v, There: m.there[v]}
	for key, val := range m.props[v] {
		if val.Kind != api.None {
			vertex.Props = append(vertex.Props, api.Prop{Key: byte(key), Val: val})
		}
	}
	for far, is := range m.edge[v] {
		if is {
			vertex.Halves = append(vertex.Halves, api.Half{Far: uint32(far), Val: m.val[v][far]})
		}
	}
	return vertex
}

func (m *model) list() []uint32 {
	var list []uint32
	for v, is := range m.there {
		if is {
			list = append(list, uint32(v))
		}
	}
	return list
}

// values is some values in form, None more often than others.
var values = []api.Value{{}, {}, {Kind: api.Int}, {Kind: api.Int, N: 5}, {Kind: api.Int, N: -1 << 63}, {Kind: api.Text}, {Kind: api.Text, S: "x"}, {Kind: api.Text, S: "a.b-9"}}

// randomOp is an operation in form among the vertices from 1 to most.
func randomOp(r *rand.Rand, most int) api.Op {
	kinds := []byte{api.OpAdd, api.OpAdd, api.OpDel, api.OpSet, api.OpSet, api.OpGet, api.OpGet, api.OpJoin, api.OpJoin, api.OpJoin, api.OpJoin, api.OpCut, api.OpEdge, api.OpDegree, api.OpNeed}
	op := api.Op{Kind: kinds[r.Intn(len(kinds))], A: uint32(1 + r.Intn(most))}
	switch op.Kind {
	case api.OpJoin, api.OpCut, api.OpEdge:
		op.B = 1 + (op.A+uint32(r.Intn(most-1)))%uint32(most)
	case api.OpSet, api.OpGet, api.OpNeed:
		op.Key = byte(r.Intn(api.MaxKey + 1))
	}
	switch op.Kind {
	case api.OpSet, api.OpJoin, api.OpNeed:
		op.Val = values[r.Intn(len(values))]
	}
	return op
}

func randomRequest(r *rand.Rand, most int) api.Request {
	switch r.Intn(10) {
	case 0:
		return hops(uint32(1+r.Intn(most)), r.Intn(api.MaxHops+1))
	case 1:
		return move(uint32(1+r.Intn(most)), r.Intn(api.MaxNodes))
	}
	var ops []api.Op
	for range 1 + r.Intn(api.MaxOps) {
		ops = append(ops, randomOp(r, most))
	}
	return tx(ops...)
}

// holdModel holds all that g tells against the model.
func holdModel(t *testing.T, g *graph.Graph, m *model) {
	t.Helper()
	if got := g.List(); !same(got, m.list()) {
		t.Fatalf("List = %v, want %v", got, m.list())
	}
	for v := range uint32(api.MaxVertex + 1) {
		if got := g.Vertex(v); !same(got, m.vertex(v)) {
			t.Fatalf("Vertex(%d) = %v, want %v", v, got, m.vertex(v))
		}
	}
}

// P3.2, P3.3: long runs of requests are answered as a model answers them, and leave what it has.
func TestModel(t *testing.T) {
	for seed := range int64(40) {
		r := rand.New(rand.NewSource(seed))
		most := []int{2, 3, 5, 8, 20, api.MaxVertex}[r.Intn(6)]
		g, m := graph.New(), &model{}
		for at := range 1500 {
			req := randomRequest(r, most)
			if got, want := g.Do(req), m.do(req); !same(got, want) {
				t.Fatalf("seed %d at %d: Do(%v) = %v, want %v", seed, at, req, got, want)
			}
			if at%10 == 0 {
				holdModel(t, g, m)
			}
		}
	}
}

// P3.2: runs over crowded graphs, in which vertices have all the edges that they may have.
func TestModelCrowded(t *testing.T) {
	full := 0
	for seed := range int64(10) {
		r := rand.New(rand.NewSource(seed))
		g, m := graph.New(), &model{}
		for v := range uint32(api.MaxVertex) {
			g.Do(tx(add(v + 1)))
			m.do(tx(add(v + 1)))
		}
		for at := range 1500 {
			a, b := uint32(1+r.Intn(20)), uint32(21+r.Intn(20))
			req := tx(join(a, b, values[r.Intn(len(values))]))
			if r.Intn(6) == 0 {
				req = tx(cut(b, a), degree(a), degree(b))
			}
			got, want := g.Do(req), m.do(req)
			if !same(got, want) {
				t.Fatalf("seed %d at %d: Do(%v) = %v, want %v", seed, at, req, got, want)
			}
			if got.E == api.ErrFull {
				full++
			}
		}
		holdModel(t, g, m)
	}
	if full == 0 {
		t.Fatal("none was full")
	}
}

// P2: what was told alike answers alike, whatever else was told to others, and in whatever order maps are gone through.
func TestAlike(t *testing.T) {
	one, two, other := graph.New(), graph.New(), graph.New()
	r, s, u := rand.New(rand.NewSource(9)), rand.New(rand.NewSource(9)), rand.New(rand.NewSource(10))
	for range 1000 {
		a := one.Do(randomRequest(r, 12))
		other.Do(randomRequest(u, 12))
		if b := two.Do(randomRequest(s, 12)); !reflect.DeepEqual(a, b) {
			t.Fatalf("%v and %v", a, b)
		}
	}
	for v := range uint32(13) {
		if !reflect.DeepEqual(one.Vertex(v), two.Vertex(v)) {
			t.Fatal(v)
		}
	}
}
