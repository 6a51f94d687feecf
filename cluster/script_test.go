package cluster_test

import (
	"testing"

	"gusset/api"
	"gusset/cluster"
	"gusset/plate"
)

// weights is how often each kind of step comes.
type weights [cluster.Drain + 1]int

// kind is one that comes as often.
func (w *world) kind(often weights) byte {
	sum := 0
	for _, n := range often {
		sum += n
	}
	at := w.Intn(sum)
	for kind, n := range often {
		if at < n {
			return byte(kind)
		}
		at -= n
	}
	return 0
}

// step is a step by chance. Some that can't be done now are among them.
func (w *world) step(often weights) cluster.Step {
	s := cluster.Step{Kind: w.kind(often), A: w.Intn(w.nodes)}
	switch s.Kind {
	case cluster.Call:
		s.A, s.Req = w.Intn(w.clients), w.request(w.verts)
	case cluster.Again:
		s.A = w.Intn(w.clients)
	case cluster.Deliver, cluster.Copy, cluster.Drop, cluster.Hold:
		s.A = w.Intn(1 + w.Intn(1+w.Bag()))
	case cluster.Restart:
		s.Fate = w.fate()
	case cluster.Arm:
		s.B = w.Intn(1 + w.Intn(60))
	}
	return s
}

// fate is what is left of what was written last.
func (w *world) fate() plate.Fate {
	var f plate.Fate
	for range w.Intn(8) {
		f.Keep = append(f.Keep, byte(w.Intn(256)))
	}
	return f
}

// swarm makes of weights others, by which some kinds come more often, some less, some never.
func (w *world) swarm(often weights) weights {
	for kind := range often {
		often[kind] = often[kind] * []int{0, 1, 2, 8}[w.Intn(4)] / 2
	}
	often[cluster.Call]++
	often[cluster.Deliver] += 5
	return often
}

// P22.2 to P22.4: scripts by chance; behind each it goes on, and is plain again (P22.5).
func TestScripts(t *testing.T) {
	inParallel(t, 1600, func(t *testing.T, seed int64) {
		w := newWorld(t, 1+int(seed)%4, 1+int(seed/4)%4, seed)
		w.verts = 2 + w.Intn(1+w.Intn(12))
		if w.Intn(2) == 0 {
			w.fill(w.verts, 2*w.verts)
		}
		for range 2 {
			often := w.swarm(evenly())
			for range 150 {
				w.try(w.step(often))
				w.checkHalves()
			}
			w.checkOrder()
			w.settle()
		}
		w.checkAsks(5, w.verts)
	})
}

// P22.2, P22.4: scripts by chance in which the bag runs over, and what it refuses is lost.
func TestFloods(t *testing.T) {
	inParallel(t, 48, func(t *testing.T, seed int64) {
		w := newWorld(t, 2+int(seed)%3, 1+int(seed/3)%4, seed)
		w.verts = 4 + w.Intn(37)
		w.fill(w.verts, 2*w.verts)
		often := weights{cluster.Copy: 8, cluster.Again: 4, cluster.Timer: w.Intn(2), cluster.Deliver: w.Intn(3)}
		for full := 0; full < 100 && len(w.steps) < 6000; {
			if client := w.Intn(w.clients); !w.Waits(client) {
				w.call(client, w.wide())
			}
			w.try(w.step(often))
			if w.Bag() == api.MaxBag {
				full++
			}
		}
		w.checkOrder()
		w.settle()
		w.checkAsks(3, w.verts)
	})
}

// wide is a request that goes to many vertices, mostly.
func (w *world) wide() api.Request {
	if w.Intn(4) == 0 {
		return w.request(w.verts)
	}
	return hops(uint32(1+w.Intn(w.verts)), 2+w.Intn(api.MaxHops-1))
}

// P4, P22.2 to P22.5: the power of each node goes at each operation of each kind of request, with whatever is left; then
// at operations while it is opened and goes on.
func TestCuts(t *testing.T) {
	for _, r := range []api.Request{
		tx(join(1, 2, text("x"))), tx(add(6), set(3, number(5)), cut(4, 5)), tx(get(4), get(5), get(3)), hops(4, 3), move(4, 0),
		move(1, 1), move(5, 2),
	} {
		t.Run("", func(t *testing.T) {
			t.Parallel()
			for nodes := max(1, r.To+1); nodes <= api.MaxNodes; nodes++ {
				for n := range nodes {
					for at := 1; cutAt(t, nodes, n, at, r); at++ {
					}
				}
			}
		})
	}
}

// cutAt is a script in which the power of a node goes at an operation of a request, if it has so many.
func cutAt(t *testing.T, nodes, n, at int, r api.Request) bool {
	for fate := range byte(5) {
		w := newWorld(t, nodes, 2, int64(at)*10+int64(fate))
		w.did(0, tx(add(1), add(2), add(3), add(4), add(5)))
		w.did(1, tx(join(4, 5, number(1)), join(3, 4, number(2))))
		w.did(1, move(5, w.Intn(nodes)))
		w.do(cluster.Arm, n, at)
		w.call(0, r)
		w.drain()
		if w.Up(n) {
			w.checkAnswered(0, r)
			return false
		}
		for cuts := range w.Intn(3) {
			w.goOnBeside(cuts % nodes)
			if !w.Up(n) {
				w.restart(n, w.keep(fate)...)
			}
			w.try(cluster.Step{Kind: cluster.Arm, A: n, B: 1 + w.Intn(8)})
			w.do(cluster.Again, 0)
			w.drain()
			w.checkHalves()
			w.checkOrder()
		}
		w.settle()
		w.checkAsks(3, 6)
	}
	return true
}

// keep is for each of some writes the same, or, for 4, any.
func (w *world) keep(fate byte) []byte {
	var keep []byte
	for range 20 {
		if fate < 4 {
			keep = append(keep, fate)
		} else {
			keep = append(keep, byte(w.Intn(4)))
		}
	}
	return keep
}

// goOnBeside lets the other client ask for something, and time go by, while a node is down.
func (w *world) goOnBeside(n int) {
	w.checkHalves()
	w.try(cluster.Step{Kind: cluster.Call, A: 1, Req: w.request(6)})
	w.do(cluster.Timer, n)
	w.drain()
	w.checkHalves()
	w.checkOrder()
}
