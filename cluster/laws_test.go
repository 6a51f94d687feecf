package cluster_test

import (
	"slices"

	"gusset/api"
	"gusset/cluster"
	"gusset/ghost"
	"gusset/graph"
)

// checkOrder is P3, P4 and P22.2. It answers the graph behind all commits.
func (w *world) checkOrder() *graph.Graph {
	w.Helper()
	type name struct {
		client byte
		seq    uint32
	}
	g, commits := graph.New(), w.Commits()
	places, last := map[name]int{}, map[byte]uint32{}
	for i, d := range commits {
		if a := g.Do(d.Req); !same(a, d.Ans) {
			w.wrong("commit", i, d, "but the graph answers", a)
		}
		if d.Seq <= last[d.Client] {
			w.wrong("commit", i, d, "comes behind that client's", last[d.Client])
		}
		places[name{d.Client, d.Seq}], last[d.Client] = i, d.Seq
	}
	for _, r := range w.Replies() {
		i, done := places[name{r.Client, r.Seq}]
		switch {
		case done == gaveUp(r.Ans):
			w.wrong("reply", r, "though it was committed:", done)
		case done && (i < r.From || i >= r.To || !same(commits[i].Req, r.Req) || !same(commits[i].Ans, r.Ans)):
			w.wrong("reply", r, "but commit", i, "is", commits[i])
		}
	}
	return g
}

// view is what the nodes that are up have.
type view struct {
	entries [api.MaxVertex + 1]api.Entry // by the vertices: the newest
	held    [api.MaxNodes][api.MaxVertex + 1]api.Vertex
	doubts  [api.MaxNodes][api.MaxVertex + 1]bool
}

// look is what there is to be seen now.
func (w *world) look() *view {
	w.Helper()
	s := &view{}
	for v := range s.entries {
		s.entries[v] = api.Entry{V: uint32(v), Owner: byte(v % w.nodes)}
	}
	for n := range w.nodes {
		for _, e := range w.Dirs(n) {
			switch known := s.entries[e.V]; {
			case e.Epoch > known.Epoch:
				s.entries[e.V] = e
			case e.Epoch == known.Epoch && e != known:
				w.wrong("two owners in one epoch:", e, known)
			}
		}
		for _, v := range w.Verts(n) {
			s.held[n][v.ID] = v
		}
		if doubts, _, _ := w.Load(n); doubts > 0 {
			for v := range s.doubts[n] {
				s.doubts[n][v] = w.Doubt(n, uint32(v))
			}
		}
	}
	return s
}

// checkHalves is P5 and P22.3.
func (w *world) checkHalves() {
	w.Helper()
	s := w.look()
	for n := range w.nodes {
		if !same(w.Ghosts(n), ghost.Count(w.Verts(n))) {
			w.wrong("ghosts of", n, "are", w.Ghosts(n), "of", w.Verts(n))
		}
	}
	for v := range s.entries {
		w.checkOneHolder(s, v)
		for _, h := range s.held[s.entries[v].Owner][v].Halves {
			w.checkHalf(s, v, h)
		}
	}
	owners := map[api.Entry]byte{}
	for _, e := range w.Served() {
		key := api.Entry{V: e.V, Epoch: e.Epoch}
		if owner, ok := owners[key]; ok && owner != e.Owner {
			w.wrong("served by two:", e, owner)
		}
		owners[key] = e.Owner
	}
}

// checkOneHolder is that not two nodes hold a vertex of which none is in doubt.
func (w *world) checkOneHolder(s *view, v int) {
	w.Helper()
	holders, doubts := 0, 0
	for n := range w.nodes {
		if s.held[n][v].There {
			holders++
		}
		if s.doubts[n][v] {
			doubts++
		}
	}
	if holders > 1 && doubts == 0 {
		w.wrong("vertex", v, "is held by", holders)
	}
}

// checkHalf is that the other half of an edge is like this one, where nobody whom it concerns is down or in doubt.
func (w *world) checkHalf(s *view, v int, h api.Half) {
	w.Helper()
	a, b := s.entries[v].Owner, s.entries[h.Far].Owner
	for _, n := range []byte{a, b} {
		if !w.Up(int(n)) || s.doubts[n][v] || s.doubts[n][h.Far] {
			return
		}
	}
	if !slices.Contains(s.held[b][h.Far].Halves, api.Half{Far: uint32(v), Val: h.Val}) {
		w.wrong("half", v, h, "of the node", a, "but", b, "has", s.held[b][h.Far])
	}
}

// checkPlain is that nothing is under way, and that each node holds what it is to hold.
func (w *world) checkPlain() {
	w.Helper()
	g, s := w.checkOrder(), w.look()
	for n := range w.nodes {
		doubts, locks, runs := w.Load(n)
		if !w.Up(n) || doubts+locks+runs > 0 {
			w.wrong("node", n, "up", w.Up(n), "has", doubts, "doubts,", locks, "locks,", runs, "runs")
		}
		if !same(w.Dirs(n), w.Dirs(0)) {
			w.wrong("node", n, "knows", w.Dirs(n), "and node 0", w.Dirs(0))
		}
		for v := uint32(1); v <= api.MaxVertex; v++ {
			should := api.Vertex{}
			if is := g.Vertex(v); is.There && s.entries[v].Owner == byte(n) {
				should = is
			}
			if !same(s.held[n][v], should) {
				w.wrong("node", n, "holds", s.held[n][v], "not", should)
			}
		}
	}
	if w.Bag() > 0 {
		w.wrong("there are", w.Bag(), "messages")
	}
}

// settle is P6 and P22.4: all nodes are up, thirty rounds go by, and nothing is under way.
func (w *world) settle() {
	w.Helper()
	for n := range w.nodes {
		// The first time the power may go in the midst, if it was armed; with the second one it is armed no more.
		for range 2 {
			if !w.Up(n) {
				w.restart(n)
			}
		}
		w.do(cluster.Arm, n, 0)
	}
	for range 30 {
		w.do(cluster.Round)
		w.checkHalves()
	}
	for client := range w.clients {
		if w.Waits(client) {
			w.wrong("client", client, "waits")
		}
	}
	w.checkPlain()
}

// checkAsks is P22.5: each of some requests is answered within its Drain, as the graph answers it.
func (w *world) checkAsks(times, verts int) {
	w.Helper()
	for range times {
		client, r := w.Intn(w.clients), w.request(verts)
		w.call(client, r)
		w.drain()
		w.checkAnswered(client, r)
	}
}

// checkAnswered is that the client's request was done, and that nothing is under way any more.
func (w *world) checkAnswered(client int, r api.Request) {
	w.Helper()
	if a := w.answered(client); gaveUp(a) {
		w.wrong(r, "is answered", a)
	} else if r.Kind == api.ReqMove && a.E == api.OK && w.look().held[r.To][r.V].ID != r.V {
		w.wrong(r, "and", r.To, "holds", w.Verts(r.To))
	}
	w.checkHalves()
	w.checkPlain()
}
