package plan_test

import (
	"maps"
	"math/rand"
	"slices"
	"testing"

	"gusset/api"
	"gusset/graph"
	"gusset/plan"
)

// kinds is all operations' kinds.
var kinds = []byte{api.OpAdd, api.OpDel, api.OpSet, api.OpGet, api.OpJoin, api.OpCut, api.OpEdge, api.OpDegree, api.OpNeed}

// someVal is one of a few values.
func someVal(r *rand.Rand) api.Value {
	return []api.Value{{}, {}, number(0), number(1), text(""), text("x")}[r.Intn(6)]
}

// someOp is an operation in form on the first vertices.
func someOp(r *rand.Rand, verts int) api.Op {
	op := api.Op{Kind: kinds[r.Intn(len(kinds))], A: 1 + uint32(r.Intn(verts))}
	switch op.Kind {
	case api.OpSet, api.OpNeed:
		op.Key, op.Val = byte(r.Intn(2)), someVal(r)
	case api.OpGet:
		op.Key = byte(r.Intn(2))
	case api.OpJoin, api.OpCut, api.OpEdge:
		op.B = 1 + (op.A+uint32(r.Intn(verts-1)))%uint32(verts)
		if op.Kind == api.OpJoin {
			op.Val = someVal(r)
		}
	}
	return op
}

// someOps is as many operations as a transaction may have.
func someOps(r *rand.Rand, verts int) []api.Op {
	var list []api.Op
	for range 1 + r.Intn(api.MaxOps) {
		list = append(list, someOp(r, verts))
	}
	return list
}

// modeOf is the mode in which the operations want v, word by word; 0: in none.
func modeOf(list []api.Op, v uint32) byte {
	mode := byte(0)
	for _, op := range list {
		changesA := slices.Contains([]byte{api.OpAdd, api.OpDel, api.OpSet, api.OpJoin, api.OpCut}, op.Kind)
		changesB := slices.Contains([]byte{api.OpJoin, api.OpCut}, op.Kind)
		if op.A == v && changesA || op.B == v && changesB {
			return api.Exclusive
		}
		if op.A == v {
			mode = api.Shared
		}
	}
	return mode
}

// modelWants is what the operations want.
func modelWants(list []api.Op) []api.Want {
	var want []api.Want
	for v := uint32(1); v <= api.MaxVertex; v++ {
		if mode := modeOf(list, v); mode != 0 {
			want = append(want, api.Want{V: v, Mode: mode})
		}
	}
	return want
}

// graphOf is a graph of the vertices.
func graphOf(t *testing.T, verts []api.Vertex) *graph.Graph {
	t.Helper()
	g := graph.New()
	for _, v := range verts {
		if e := g.Put(v); e != api.OK {
			t.Fatalf("Put(%v) = %v", v, e)
		}
	}
	return g
}

// all is each vertex as it is in g.
func all(g *graph.Graph) []api.Vertex {
	var list []api.Vertex
	for v := uint32(1); v <= api.MaxVertex; v++ {
		list = append(list, g.Vertex(v))
	}
	return list
}

// P18.1: operations by chance, near one another and far apart, held against a model that asks of each vertex who wants it.
func TestWantsByChance(t *testing.T) {
	for seed := range int64(4000) {
		r := rand.New(rand.NewSource(seed))
		list := someOps(r, 2+r.Intn(api.MaxVertex-1))
		wants(t, list, modelWants(list))
	}
}

// P18.2: wants by chance, gone through once for each node.
func TestGroupsByChance(t *testing.T) {
	for seed := range int64(1000) {
		r := rand.New(rand.NewSource(seed))
		var list []api.Want
		var owners []byte
		for range r.Intn(13) {
			list = append(list, api.Want{V: uint32(r.Intn(5)), Mode: byte(r.Intn(3))})
			owners = append(owners, byte(r.Intn(api.MaxNodes)))
		}
		should := make([][]api.Want, api.MaxNodes)
		for node := range should {
			for i, w := range list {
				if int(owners[i]) == node {
					should[node] = append(should[node], w)
				}
			}
		}
		groups(t, list, owners, should...)
	}
}

// P18.3: transactions by chance on a graph of which Run gets only what Wants names: it answers as the graph does, and what it
// changes is just what changes there.
func TestRunByChance(t *testing.T) {
	for seed := range int64(100) {
		r := rand.New(rand.NewSource(seed))
		whole := graph.New()
		verts := 2 + r.Intn(6)
		for range 150 {
			list := someOps(r, verts)
			locked, e := plan.Wants(list)
			if e != api.OK {
				t.Fatalf("Wants(%v) = %v", list, e)
			}
			var part []api.Vertex
			for _, w := range locked {
				part = append(part, whole.Vertex(w.V))
			}
			before := all(whole)
			should := whole.Do(api.Request{Kind: api.ReqTx, Ops: list})
			if should.E != api.OK {
				refuses(t, part, list, should.E, should.At)
				continue
			}
			var changed []api.Vertex
			for i, now := range all(whole) {
				if !same(before[i:i+1], []api.Vertex{now}) {
					changed = append(changed, now)
				}
			}
			answers(t, part, list, should.Vals, changed...)
		}
	}
}

// someVerts is vertices in form, in any order, whose halves lead anywhere, be there one back or not.
func someVerts(r *rand.Rand, verts int) []api.Vertex {
	var list []api.Vertex
	for _, i := range r.Perm(verts) {
		v := api.Vertex{ID: uint32(i + 1), There: r.Intn(4) > 0}
		for key := byte(0); v.There && key <= api.MaxKey; key++ {
			if val := someVal(r); val.Kind != api.None {
				v.Props = append(v.Props, api.Prop{Key: key, Val: val})
			}
		}
		for far := uint32(1); v.There && far <= uint32(verts)+2; far++ {
			if far != v.ID && r.Intn(3) == 0 {
				v.Halves = append(v.Halves, api.Half{Far: far, Val: someVal(r)})
			}
		}
		if r.Intn(5) > 0 {
			list = append(list, v)
		}
	}
	return list
}

// P18.3, P18.4: vertices by chance whose halves don't match, as no graph but one put together has them.
func TestPartsByChance(t *testing.T) {
	for seed := range int64(3000) {
		r := rand.New(rand.NewSource(seed))
		n := 2 + r.Intn(6)
		verts, list := someVerts(r, n), someOps(r, n)
		if seed%2 == 0 {
			list = list[:1]
		}
		g := graphOf(t, verts)
		before := all(g)
		should := g.Do(api.Request{Kind: api.ReqTx, Ops: list})
		if should.E != api.OK {
			refuses(t, verts, list, should.E, should.At)
			continue
		}
		var changed []api.Vertex
		for i, now := range all(g) {
			if modeOf(list, now.ID) == api.Exclusive && !same(before[i:i+1], []api.Vertex{now}) {
				changed = append(changed, now)
			}
		}
		answers(t, verts, list, should.Vals, changed...)
		fars := map[uint32]struct{}{}
		for _, v := range verts {
			for _, h := range v.Halves {
				fars[h.Far] = struct{}{}
			}
		}
		leads(t, verts, slices.Sorted(maps.Keys(fars))...)
	}
}
