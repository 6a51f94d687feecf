package node_test

import (
	"testing"

	"gusset/api"
	"gusset/graph"
)

// touches is the vertices that a request touches, as the graph is.
func touches(g *graph.Graph, r api.Request) map[uint32]bool {
	list := map[uint32]bool{}
	for _, op := range r.Ops {
		list[op.A] = true
		if op.B != 0 {
			list[op.B] = true
		}
	}
	if r.V != 0 {
		list[r.V] = true
	}
	for _, v := range g.Do(r).List {
		if r.Kind == api.ReqHops {
			list[v] = true
		}
	}
	return list
}

// meet tells whether two sets have one in common.
func meet(a, b map[uint32]bool) bool {
	for v := range a {
		if b[v] {
			return true
		}
	}
	return false
}

// group is those requests that meet the first one's, or one that does.
func group(sets []map[uint32]bool, first int) []int {
	list, in := []int{first}, map[int]bool{first: true}
	for i := 0; i < len(list); i++ {
		for other := range sets {
			if !in[other] && meet(sets[list[i]], sets[other]) {
				in[other] = true
				list = append(list, other)
			}
		}
	}
	return list
}

// P22.5: requests at once, in order, in any order, and some messages more than once: those without a vertex in common are
// all done, of several that clash one at least.
func TestAtOnce(t *testing.T) {
	inParallel(t, 600, func(t *testing.T, seed int64) {
		w := newWorld(t, 1+int(seed)%4, 2+int(seed/4)%3, seed)
		verts := 4 + w.Intn(30)
		w.fill(verts)
		for range 10 {
			g := w.checkOrder()
			var sets []map[uint32]bool
			for c := range w.clients {
				r := w.request(verts)
				sets = append(sets, touches(g, r))
				w.call(c, r)
			}
			switch w.Intn(3) {
			case 0:
				w.drain()
			case 1:
				w.note("any order")
				for len(w.bag) > 0 {
					w.deliver(w.take(w.Intn(len(w.bag))))
				}
			case 2:
				w.muddle()
			}
			for c := range w.clients {
				done := 0
				for _, k := range group(sets, c) {
					if w.clients[k].open {
						w.fatal("client", k, "waits")
					}
					if e := w.clients[k].answer.E; e != api.ErrAborted && e != api.ErrBusy {
						done++
					}
				}
				if done == 0 {
					w.fatal("client", c, "and all that it clashes with were given up")
				}
			}
			w.checkHalves()
			w.checkPlain()
		}
	})
}
