package node_test

import (
	"slices"
	"testing"

	"gusset/api"
)

// fill gives the world some vertices and edges.
func (w *world) fill(verts int) {
	var list []api.Request
	for v := 1; v <= verts; v++ {
		list = append(list, api.Request{Kind: api.ReqTx, Ops: []api.Op{{Kind: api.OpAdd, A: uint32(v)}}})
	}
	for range 2 * verts {
		a, b := uint32(1+w.Intn(verts)), uint32(1+w.Intn(verts))
		if a != b {
			list = append(list, api.Request{Kind: api.ReqTx, Ops: []api.Op{{Kind: api.OpJoin, A: a, B: b, Val: w.value()}}})
		}
	}
	for _, r := range list {
		w.call(0, r)
		w.drain()
		if w.clients[0].open {
			w.fatal("not answered")
		}
	}
}

// P22.5: requests one by one.
func TestPlain(t *testing.T) {
	inParallel(t, 300, func(t *testing.T, seed int64) {
		w := newWorld(t, 1+int(seed)%4, 1+int(seed/4)%4, seed)
		verts := 2 + w.Intn(12)
		for range 40 {
			c := w.Intn(len(w.clients))
			w.call(c, w.request(verts))
			w.drain()
			if w.clients[c].open || w.clients[c].answer.E == api.ErrAborted || w.clients[c].answer.E == api.ErrBusy {
				w.fatal("given up")
			}
			w.checkHalves()
			w.checkPlain()
			if i := w.Intn(len(w.nodes)); w.Intn(5) == 0 {
				w.nodes[i] = nil
				w.restart(i)
			} else if w.Intn(5) == 0 {
				if e := w.nodes[i].Checkpoint(); e != api.OK {
					w.fatal("checkpoint", e)
				}
			}
		}
	})
}

// P22.5: the messages of one request in any order, some more than once, some lost.
func TestPlainMuddled(t *testing.T) {
	inParallel(t, 500, func(t *testing.T, seed int64) {
		w := newWorld(t, 1+int(seed)%4, 1+int(seed/4)%4, seed)
		verts := 2 + w.Intn(12)
		w.fill(verts)
		for range 30 {
			c := w.Intn(len(w.clients))
			w.call(c, w.request(verts))
			for w.Intn(2) == 0 {
				w.lose()
				w.again(c)
			}
			w.muddle()
			if w.clients[c].open {
				w.again(c)
				w.drain()
			}
			if w.clients[c].open || w.clients[c].answer.E == api.ErrAborted || w.clients[c].answer.E == api.ErrBusy {
				w.fatal("given up")
			}
			w.checkHalves()
			w.checkPlain()
		}
	})
}

// lose delivers some messages, some of them more than once, and loses some of the others.
func (w *world) lose() {
	w.note("lose")
	for range w.Intn(20) {
		if len(w.bag) == 0 {
			return
		}
		if i := w.Intn(len(w.bag)); w.Intn(3) == 0 {
			w.deliver(w.bag[i])
		} else {
			w.deliver(w.take(i))
		}
	}
	w.bag = slices.DeleteFunc(w.bag, func([]byte) bool { return w.Intn(2) == 0 })
}

// haunt does what makes messages of earlier lives, and of what is over, come late, and others never.
func (w *world) haunt() {
	i := w.Intn(len(w.nodes))
	switch k := w.Intn(12); {
	case k < 4 && len(w.bag) > 0:
		at := w.Intn(len(w.bag))
		w.note("copy", w.bag[at])
		w.deliver(w.bag[at])
	case k < 6 && len(w.bag) > 0:
		w.take(w.Intn(len(w.bag)))
	case k < 8:
		w.again(w.Intn(len(w.clients)))
	case k < 10:
		w.note("crash", i)
		w.nodes[i] = nil
		w.restart(i)
	case w.nodes[i] != nil && w.Intn(2) == 0:
		w.note("checkpoint", i)
		w.nodes[i].Checkpoint()
		w.behind(i, nil)
	}
}

// The kinds of harm that comes to a script.
const (
	calm = iota
	lossy
	broken
	haunted
	harms
)

// step is one of the things that a script does.
func (w *world) step(verts, harm int) {
	if harm == haunted && w.Intn(3) == 0 {
		w.haunt()
	}
	i, c := w.Intn(len(w.nodes)), w.Intn(len(w.clients))
	switch k := w.Intn(100); {
	case k < 20:
		if !w.clients[c].open {
			w.call(c, w.request(verts))
		}
	case k < 80:
		for range 1 + w.Intn(4) {
			if len(w.bag) > 0 {
				at := 0
				if w.Intn(2) == 0 {
					at = w.Intn(len(w.bag))
				}
				w.deliver(w.take(at))
			}
		}
	case k < 84:
		w.again(c)
	case k < 88:
		w.note("tick", i)
		w.tick(i)
	case harm == calm:
	case k < 90 && len(w.bag) > 0:
		w.deliver(w.bag[w.Intn(len(w.bag))])
	case k < 92 && len(w.bag) > 0:
		w.take(w.Intn(len(w.bag)))
	case harm == lossy:
	case k < 93:
		w.note("crash", i)
		w.nodes[i] = nil
	case k < 97:
		w.restart(i)
	case k < 99 && w.nodes[i] != nil:
		n := 1 + w.Intn(1+w.Intn(60))
		w.note("arm", i, n)
		w.plates[i].Arm(n)
	case w.nodes[i] != nil:
		w.note("checkpoint", i)
		w.nodes[i].Checkpoint()
		w.behind(i, nil)
	}
}

// P22.2 to P22.4: scripts by chance, on roomy plates and on such as must be laid down anew now and then.
func TestScripts(t *testing.T) {
	inParallel(t, 2400, func(t *testing.T, seed int64) {
		pages := api.MaxPages
		if seed/64%2 == 1 {
			pages = 200
		}
		w := newWorldOf(t, 1+int(seed)%4, 1+int(seed/4)%4, pages, seed)
		w.roams = seed/128%2 == 1
		verts := 2 + w.Intn(1+w.Intn(8))
		if w.Intn(2) == 0 {
			w.fill(verts)
		}
		for range 3 {
			for range 100 {
				w.step(verts, int(seed/16)%harms)
				w.checkHalves()
			}
			w.checkOrder()
			w.settle()
		}
	})
}

// P22.4: it goes on when the bag is full of what was asked again and again.
func TestFlood(t *testing.T) {
	inParallel(t, 24, func(t *testing.T, seed int64) {
		w := newWorld(t, 2+int(seed)%3, 4, seed)
		verts := uint32(10 + w.Intn(30))
		for v := range verts {
			w.did(0, tx(add(v+1)))
		}
		for a := range verts {
			w.did(0, tx(join(a+1, (a+1)%verts+1, api.Value{}), join(a+1, (a+3)%verts+1, api.Value{})))
		}
		for len(w.bag) < api.MaxBag {
			for c := range w.clients {
				if !w.clients[c].open {
					w.call(c, hops(1+uint32(w.Intn(int(verts))), 3+w.Intn(6)))
				}
				w.again(c)
				if len(w.bag) > 0 && w.Intn(10) == 0 {
					w.deliver(w.take(w.Intn(len(w.bag))))
				}
			}
			w.tick(w.Intn(len(w.nodes)))
		}
		w.settle()
	})
}
