package node_test

import (
	"testing"

	"gusset/api"
)

// hound lets harm come to what client 0 asks, its messages and the nodes from the first one on, while another client
// asks something else. Little is under way: so the harm comes to what it rests on.
func (w *world) hound(r api.Request, other func() api.Request, first int) {
	w.call(0, r)
	for range 10 + w.Intn(30) {
		at := 0
		if len(w.bag) > 0 {
			at = w.Intn(len(w.bag))
		}
		switch k := w.Intn(20); {
		case k < 10 && len(w.bag) > 0:
			w.deliver(w.take(at))
		case k < 12 && len(w.bag) > 0:
			w.deliver(w.bag[at])
		case k < 15 && len(w.bag) > 0:
			w.take(at)
		case k < 17:
			w.again(0)
		case k < 18 && first < len(w.nodes):
			i := first + w.Intn(len(w.nodes)-first)
			if w.nodes[i] != nil && w.Intn(3) == 0 {
				w.plates[i].Arm(1 + w.Intn(8))
			} else {
				w.reopen(i)
			}
		case !w.clients[1].open:
			w.call(1, other())
		}
	}
	w.again(0)
	w.again(1)
	w.drain()
	w.checkHalves()
	w.checkOrder()
	w.settle()
}

// ring is a world of vertices that each have an edge to the next one.
func ring(t *testing.T, nodes, verts int, seed int64) *world {
	w := newWorld(t, nodes, 2, seed)
	for v := range uint32(verts) {
		w.did(0, tx(add(v+1)))
	}
	for a := range uint32(verts) {
		w.did(0, tx(join(a+1, (a+1)%uint32(verts)+1, api.Value{})))
	}
	return w
}

// P3, P4: traversals among nodes that crash, by messages that are lost and doubled, while edges come and go.
func TestHoundedTraversals(t *testing.T) {
	inParallel(t, 800, func(t *testing.T, seed int64) {
		w := ring(t, 2+int(seed)%3, 3+int(seed/3)%6, seed)
		verts := uint32(3 + int(seed/3)%6)
		edges := func() api.Request {
			a := uint32(1 + w.Intn(int(verts)))
			return tx(api.Op{Kind: byte(api.OpJoin + w.Intn(2)), A: a, B: a%verts + 1})
		}
		for range 10 {
			w.hound(hops(1+uint32(w.Intn(int(verts))), 2+w.Intn(4)), edges, 1)
		}
	})
}

// P3, P4, P5: the same with requests of all kinds; the home crashes, too.
func TestHounded(t *testing.T) {
	inParallel(t, 800, func(t *testing.T, seed int64) {
		verts := 3 + int(seed/3)%4
		w := ring(t, 2+int(seed)%3, verts, seed)
		any := func() api.Request { return w.request(verts) }
		for range 10 {
			w.hound(any(), any, int(seed/64)%2)
		}
	})
}

// P3, P5: the same with moves, while others touch what moves.
func TestHoundedMoves(t *testing.T) {
	inParallel(t, 400, func(t *testing.T, seed int64) {
		w := ring(t, 2+int(seed)%3, 3, seed)
		moves := func() api.Request { return move(uint32(1+w.Intn(2)), w.Intn(len(w.nodes))) }
		for range 10 {
			w.hound(moves(), func() api.Request {
				if w.Intn(2) == 0 {
					return moves()
				}
				return w.request(3)
			}, int(seed/64)%2)
		}
	})
}
