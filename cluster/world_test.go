package cluster_test

import (
	"fmt"
	"math/rand"
	"slices"
	"strconv"
	"testing"

	"gusset/api"
	"gusset/cluster"
	"gusset/plate"
)

// The examples' operations and requests.
func add(a uint32) api.Op { return api.Op{Kind: api.OpAdd, A: a} }

func set(a uint32, v api.Value) api.Op { return api.Op{Kind: api.OpSet, A: a, Val: v} }

func get(a uint32) api.Op { return api.Op{Kind: api.OpGet, A: a} }

func join(a, b uint32, v api.Value) api.Op { return api.Op{Kind: api.OpJoin, A: a, B: b, Val: v} }

func cut(a, b uint32) api.Op { return api.Op{Kind: api.OpCut, A: a, B: b} }

func number(n int64) api.Value { return api.Value{Kind: api.Int, N: n} }

func text(s string) api.Value { return api.Value{Kind: api.Text, S: s} }

func tx(ops ...api.Op) api.Request { return api.Request{Kind: api.ReqTx, Ops: ops} }

func hops(v uint32, k int) api.Request { return api.Request{Kind: api.ReqHops, V: v, K: k} }

func move(v uint32, to int) api.Request { return api.Request{Kind: api.ReqMove, V: v, To: to} }

// told is all that a thing tells; nil and empty lists tell the same.
func told(a any) string { return fmt.Sprintf("%+v", a) }

// same holds two things against each other by what they tell.
func same(a, b any) bool { return told(a) == told(b) }

// gaveUp tells whether nothing of a request has happened, nor ever will.
func gaveUp(a api.Answer) bool { return a.E == api.ErrAborted || a.E == api.ErrBusy }

// world is a cluster, with all that was done to it.
type world struct {
	*testing.T
	*rand.Rand
	*cluster.Cluster
	nodes, clients int
	verts          int // that requests by chance are about
	steps          []cluster.Step
}

// newWorld is a cluster without a vertex.
func newWorld(t *testing.T, nodes, clients int, seed int64) *world {
	t.Helper()
	c, e := cluster.New(nodes, clients)
	if e != api.OK {
		t.Fatal("New answers", e)
	}
	return &world{T: t, Rand: rand.New(rand.NewSource(seed)), Cluster: c, nodes: nodes, clients: clients, verts: 6}
}

// inParallel does something with each seed, with several at once.
func inParallel(t *testing.T, seeds int64, do func(*testing.T, int64)) {
	const rows = 8
	for row := range int64(rows) {
		t.Run(strconv.FormatInt(row, 10), func(t *testing.T) {
			t.Parallel()
			for seed := row; seed < seeds; seed += rows {
				do(t, seed)
			}
		})
	}
}

// wrong tells what went wrong, and the steps with which it has come to that.
func (w *world) wrong(words ...any) {
	w.Helper()
	past := fmt.Sprintln("nodes", w.nodes, "clients", w.clients, "steps", len(w.steps), "- the last ones:")
	for _, s := range w.steps[max(0, len(w.steps)-50):] {
		past += fmt.Sprintln(s)
	}
	w.Fatal(fmt.Sprintln(words...), past)
}

// try does a step, which may be refused.
func (w *world) try(s cluster.Step) api.Errno {
	w.steps = append(w.steps, s)
	return w.Do(s)
}

// do does a step that isn't refused; it names what the kind says.
func (w *world) do(kind byte, names ...int) {
	w.Helper()
	s := cluster.Step{Kind: kind}
	for i, to := range []*int{&s.A, &s.B} {
		if i < len(names) {
			*to = names[i]
		}
	}
	if e := w.try(s); e != api.OK {
		w.wrong("step", s, "is refused:", e)
	}
}

// call lets a client call.
func (w *world) call(client int, r api.Request) {
	w.Helper()
	if e := w.try(cluster.Step{Kind: cluster.Call, A: client, Req: r}); e != api.OK {
		w.wrong("call", r, "is refused:", e)
	}
}

// restart opens a node that is down, with what Keep says of its plate.
func (w *world) restart(n int, keep ...byte) {
	w.Helper()
	if e := w.try(cluster.Step{Kind: cluster.Restart, A: n, Fate: plate.Fate{Keep: keep}}); e != api.OK {
		w.wrong("restart of", n, "is refused:", e)
	}
}

// drain delivers all, and holds it against there being nothing under way any more.
func (w *world) drain() {
	w.Helper()
	w.do(cluster.Drain)
	if w.Bag() > 0 {
		w.wrong("it never ends")
	}
}

// did lets a client call what is done at once.
func (w *world) did(client int, r api.Request) api.Answer {
	w.Helper()
	w.call(client, r)
	w.drain()
	a := w.answered(client)
	if a.E != api.OK {
		w.wrong(r, "is answered", a)
	}
	return a
}

// answered is what a client was answered, who doesn't wait any more.
func (w *world) answered(client int) api.Answer {
	w.Helper()
	for _, r := range slices.Backward(w.Replies()) {
		if int(r.Client) == client && !w.Waits(client) {
			return r.Ans
		}
	}
	w.wrong("client", client, "isn't answered")
	return api.Answer{}
}

// fill gives the world some vertices and edges.
func (w *world) fill(verts, edges int) {
	w.Helper()
	for v := range verts {
		w.did(0, tx(add(uint32(v+1))))
	}
	for range edges {
		w.call(0, tx(join(w.pair(verts))))
		w.drain()
	}
}

// pair is two of the first so many vertices, and a value for their edge.
func (w *world) pair(verts int) (uint32, uint32, api.Value) {
	a := w.Intn(verts)
	b := (a + 1 + w.Intn(verts-1)) % verts
	return uint32(a + 1), uint32(b + 1), w.value()
}

// value is a value in form.
func (w *world) value() api.Value {
	return []api.Value{{}, number(int64(w.Intn(7) - 3)), text("abc.-09z"[:w.Intn(9)])}[w.Intn(3)]
}

// op is an operation in form about the first so many vertices. Few of them are an OpDel, that something may be there.
func (w *world) op(verts int) api.Op {
	a, b, val := w.pair(verts)
	op := api.Op{Kind: byte(api.OpAdd + w.Intn(9)), A: a}
	switch op.Kind {
	case api.OpDel:
		if w.Intn(3) > 0 {
			op.Kind = api.OpAdd
		}
	case api.OpJoin:
		op.Val = val
		fallthrough
	case api.OpCut, api.OpEdge:
		op.B = b
	case api.OpSet:
		op.Val = val
		fallthrough
	case api.OpGet, api.OpNeed:
		op.Key = byte(w.Intn(2))
	}
	return op
}

// request is a request in form about the first so many vertices, two at least.
func (w *world) request(verts int) api.Request {
	v := uint32(1 + w.Intn(verts))
	switch w.Intn(8) {
	case 0:
		return move(v, w.Intn(w.nodes))
	case 1, 2:
		return hops(v, w.Intn(api.MaxHops+1))
	}
	var ops []api.Op
	for range 1 + w.Intn(1+w.Intn(api.MaxOps)) {
		ops = append(ops, w.op(verts))
	}
	return tx(ops...)
}
