package cluster_test

import (
	"testing"

	"gusset/api"
	"gusset/cluster"
	"gusset/graph"
)

// P22.5: requests one by one, each drained, with Checkpoints and Crashes between them.
func TestPlain(t *testing.T) {
	inParallel(t, 240, func(t *testing.T, seed int64) {
		w := newWorld(t, 1+int(seed)%4, 1+int(seed/4)%4, seed)
		verts := 2 + w.Intn(12)
		for range 40 {
			w.checkAsks(1, verts)
			switch n := w.Intn(w.nodes); w.Intn(8) {
			case 0:
				w.do(cluster.Crash, n)
				w.restart(n, w.keep(4)...)
			case 1:
				w.do(cluster.Checkpoint, n)
			}
			w.checkHalves()
			w.checkPlain()
		}
	})
}

// P22.5: the messages of one request in any order, some more than once, some lost; then it is asked again.
func TestMuddled(t *testing.T) {
	inParallel(t, 320, func(t *testing.T, seed int64) {
		w := newWorld(t, 1+int(seed)%4, 1+int(seed/4)%4, seed)
		verts := 2 + w.Intn(12)
		w.fill(verts, 2*verts)
		for range 20 {
			client, r := w.Intn(w.clients), w.request(verts)
			w.call(client, r)
			for range w.Intn(3) {
				w.muddle(weights{cluster.Deliver: 8, cluster.Copy: 3, cluster.Hold: 1, cluster.Drop: w.Intn(4)})
				w.do(cluster.Again, client)
			}
			w.muddle(weights{cluster.Deliver: 8, cluster.Copy: 3})
			w.do(cluster.Again, client)
			w.drain()
			w.checkAnswered(client, r)
		}
	})
}

// muddle lets things be done with the messages by chance, till there are none, or for long enough.
func (w *world) muddle(often weights) {
	for range 60 {
		if w.Bag() == 0 {
			return
		}
		w.do(w.kind(often), w.Intn(w.Bag()))
	}
	for w.Bag() > 0 {
		w.do(cluster.Deliver, w.Intn(w.Bag()))
	}
}

// P22.5: the messages of one request in each order that there can be.
func TestAllOrders(t *testing.T) {
	for _, c := range []struct {
		client, least int
		r             api.Request
	}{
		{0, 200, tx(join(1, 2, text("x")), get(3))},
		{1, 1, tx(set(1, number(1)), get(4))},
		{0, 1, tx(add(1))},
		{0, 200, move(1, 2)},
		{1, 200, move(3, 0)},
		{0, 200, hops(4, 2)},
		{1, 200, hops(4, 2)},
		{0, 200, hops(2, 3)},
		{2, 200, hops(5, 3)},
	} {
		t.Run("", func(t *testing.T) {
			t.Parallel()
			orders := 0
			for order := []int{}; order != nil; orders++ {
				order = inOrder(t, c.client, c.r, order)
			}
			if orders < c.least {
				t.Fatal(c.r, "has but", orders, "orders")
			}
		})
	}
}

// inOrder delivers all messages of a request: of those that there are at each time the one that order tells, beyond it the
// first one. It answers the next order; nil: there is none.
func inOrder(t *testing.T, client int, r api.Request, order []int) []int {
	w := newWorld(t, 3, 3, 1)
	w.did(0, tx(add(1), add(2), add(3), add(4), add(5)))
	w.did(1, tx(join(4, 5, number(1)), join(3, 4, number(2)), join(3, 2, api.Value{})))
	w.call(client, r)
	var choices []int // how many messages there were at each time
	for w.Bag() > 0 {
		if len(choices) == len(order) {
			order = append(order, 0)
		}
		at := order[len(choices)]
		choices = append(choices, w.Bag())
		w.do(cluster.Deliver, at)
	}
	w.checkAnswered(client, r)
	for i := len(choices) - 1; i >= 0; i-- {
		if order[i]+1 < choices[i] {
			return append(order[:i:i], order[i]+1)
		}
	}
	return nil
}

// P22.5: requests at once, in order, in any order, and some messages more than once: those without a vertex in common with
// any other are done, of several that clash one at least.
func TestAtOnce(t *testing.T) {
	inParallel(t, 480, func(t *testing.T, seed int64) {
		w := newWorld(t, 1+int(seed)%4, 2+int(seed/4)%3, seed)
		verts := 4 + w.Intn(30)
		w.fill(verts, 2*verts)
		for range 8 {
			g := w.checkOrder()
			var sets []map[uint32]int
			for client := range w.clients {
				r := w.request(verts)
				sets = append(sets, touched(g, r))
				w.call(client, r)
			}
			switch w.Intn(3) {
			case 0:
				w.muddle(weights{cluster.Deliver: 1})
			case 1:
				w.muddle(weights{cluster.Deliver: 2, cluster.Copy: 1})
			}
			w.drain()
			for client := range w.clients {
				w.checkOneDone(sets, client)
			}
			w.checkHalves()
			w.checkPlain()
		}
	})
}

// touched is the vertices that a request touches, as the graph is.
func touched(g *graph.Graph, r api.Request) map[uint32]int {
	set := map[uint32]int{r.V: 1}
	for _, op := range r.Ops {
		set[op.A], set[op.B] = 1, 1
	}
	if r.Kind == api.ReqHops {
		for _, v := range g.Do(r).List {
			set[v] = 1
		}
	}
	delete(set, 0)
	return set
}

// checkOneDone is that of the requests that meet the client's, or one that does, one at least was done.
func (w *world) checkOneDone(sets []map[uint32]int, client int) {
	w.Helper()
	group := []int{client}
	in := map[int]int{client: 1}
	for i := 0; i < len(group); i++ {
		if !gaveUp(w.answered(group[i])) {
			return
		}
		for other := range sets {
			if in[other] == 0 && meet(sets[group[i]], sets[other]) {
				in[other] = 1
				group = append(group, other)
			}
		}
	}
	w.wrong("the requests of", group, "were all given up")
}

// meet tells whether two sets have a vertex in common.
func meet(a, b map[uint32]int) bool {
	for v := range a {
		if b[v] > 0 {
			return true
		}
	}
	return false
}
