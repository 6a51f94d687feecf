package store_test

import (
	"bytes"
	"math"
	"math/rand"
	"slices"
	"testing"

	"gusset/api"
	"gusset/graph"
	"gusset/store"
	"gusset/wire"
)

// model is a store by an array: the vertices that aren't held aren't There.
type model [api.MaxVertex + 1]api.Vertex

// modelOf is the model that holds the vertices.
func modelOf(list ...api.Vertex) *model {
	m := &model{}
	for _, v := range list {
		m[v.ID] = v
	}
	return m
}

// list is what is held, rising.
func (m *model) list() []api.Vertex {
	var list []api.Vertex
	for _, v := range m {
		if v.There {
			list = append(list, v)
		}
	}
	return list
}

// naming is who of those that are held has a half to far.
func (m *model) naming(far uint32) []uint32 {
	var list []uint32
	for _, v := range m {
		if v.There && slices.ContainsFunc(v.Halves, func(h api.Half) bool { return h.Far == far }) {
			list = append(list, v.ID)
		}
	}
	return list
}

// numbers is the vertices' numbers.
func numbers(list []api.Vertex) []uint32 {
	var ids []uint32
	for _, v := range list {
		ids = append(ids, v.ID)
	}
	return ids
}

// dumpOf is the bytes of a store that holds the list, which rises.
func dumpOf(list []api.Vertex) []byte {
	p := []byte{0}
	if len(list) > 0 {
		p = []byte{1, byte(len(list))}
	}
	for _, v := range list {
		its, e := wire.PutVertex(v)
		if e != api.OK {
			panic(e)
		}
		p = append(p, its...)
	}
	return p
}

// isDump tells whether p is a store's bytes, gone through from the front on.
func isDump(p []byte) bool {
	if len(p) == 0 || p[0] > 1 || len(p) <= int(p[0]) {
		return false
	}
	count, last, rest := 0, uint32(0), p[1:]
	if p[0] == 1 {
		count, rest = int(p[1]), p[2:]
		if count == 0 {
			return false
		}
	}
	for range count {
		v, n, e := wire.GetVertex(rest)
		if e != api.OK || !v.There || v.ID <= last || graph.New().Put(v) != api.OK {
			return false
		}
		last, rest = v.ID, rest[n:]
	}
	return len(rest) == 0
}

// holdModel holds all that s tells against the model.
func holdModel(t *testing.T, s *store.Store, m *model) {
	t.Helper()
	list := m.list()
	if s.Len() != len(list) {
		t.Fatalf("Len = %d, not %d", s.Len(), len(list))
	}
	ranges(t, s, 0, math.MaxUint32, list...)
	for id := range uint32(api.MaxVertex + 1) {
		should := api.Vertex{ID: id}
		if m[id].There {
			should = m[id]
		}
		if got, held := s.Get(id); held != should.There || !alike(got, should) {
			t.Fatalf("Get(%d) = %+v, %v, not %+v", id, got, held, should)
		}
		names(t, s, id, m.naming(id)...)
	}
	if p, e := s.Dump(); e != api.OK || !bytes.Equal(p, dumpOf(list)) {
		t.Fatalf("Dump = % x, %v, not % x", p, e, dumpOf(list))
	}
}

// chance makes things by chance.
type chance struct{ *rand.Rand }

func (c chance) value() api.Value {
	switch c.Intn(3) {
	case 0:
		return api.Value{Kind: api.Int, N: int64(c.Uint64()) >> c.Intn(64)}
	case 1:
		return api.Value{Kind: api.Text, S: "a.b-09zz"[:c.Intn(9)]}
	}
	return api.Value{}
}

// vertex is a vertex in form, with numbers up to most.
func (c chance) vertex(most int) api.Vertex {
	v := api.Vertex{ID: uint32(1 + c.Intn(most))}
	if c.Intn(3) == 0 {
		return v
	}
	v.There = true
	for key := range byte(api.MaxKey + 1) {
		if val := c.value(); val.Kind != api.None {
			v.Props = append(v.Props, api.Prop{Key: key, Val: val})
		}
	}
	for far := uint32(1); far <= uint32(most) && len(v.Halves) < api.MaxHalves; far++ {
		if far != v.ID && c.Intn(3) == 0 {
			v.Halves = append(v.Halves, api.Half{Far: far, Val: c.value()})
		}
	}
	return v
}

// spoilt is bytes like p, but for some change.
func (c chance) spoilt(p []byte) []byte {
	q := slices.Clone(p)
	at := c.Intn(len(q))
	switch c.Intn(5) {
	case 0:
		q[at] = byte(c.Int())
	case 1:
		q[at] += byte(1 - 2*c.Intn(2))
	case 2:
		q = slices.Insert(q, at, byte(c.Intn(3)))
	case 3:
		q = slices.Delete(q, at, at+1)
	case 4:
		q = slices.Concat(q[:at], q[c.Intn(len(q)):])
	}
	return q
}

// P11.1, P11.2: stores that many vertices were put to, one by one, against the model at every step.
func TestByChance(t *testing.T) {
	for seed := range int64(30) {
		c := chance{rand.New(rand.NewSource(seed))}
		most := []int{1, 2, 3, 8, 20, api.MaxVertex}[c.Intn(6)]
		s, m := store.New(), &model{}
		for range 300 {
			v := c.vertex(most)
			want(t, "Put", s.Put(v), api.OK)
			m[v.ID] = v
			holdModel(t, s, m)
			from, to := uint32(c.Intn(most+3)), uint32(c.Intn(most+3))
			ranges(t, s, from, to, slices.DeleteFunc(m.list(), func(v api.Vertex) bool { return v.ID < from || v.ID > to })...)
		}
		dumps(t, s, dumpOf(m.list()))
	}
}

// P11.2: what a store dumps as, but for some change, is loaded just if a store dumps so.
func TestSpoilt(t *testing.T) {
	c := chance{rand.New(rand.NewSource(5))}
	loaded := 0
	for range 30000 {
		m := &model{}
		for range c.Intn(5) {
			v := c.vertex(6)
			m[v.ID] = v
		}
		p := c.spoilt(dumpOf(m.list()))
		s, e := store.Load(p)
		if !isDump(p) {
			if s != nil || e != api.ErrForm {
				t.Fatalf("Load(% x) = %v, %v", p, s, e)
			}
			continue
		}
		loaded++
		want(t, "Load", e, api.OK)
		if got, e := s.Dump(); e != api.OK || !bytes.Equal(got, p) {
			t.Fatalf("Load(% x) dumps as % x, %v", p, got, e)
		}
	}
	if loaded < 1000 {
		t.Errorf("only %d were loaded", loaded)
	}
}

// P1, P11.1, P11.2: calls with anything end, and don't panic.
func TestAnything(t *testing.T) {
	c := chance{rand.New(rand.NewSource(6))}
	edges := []uint32{0, 1, 2, 3, 40, 41, math.MaxUint32}
	edge := func() uint32 { return edges[c.Intn(len(edges))] }
	for range 300 {
		s, m := store.New(), &model{}
		for range 30 {
			v := api.Vertex{ID: edge(), There: c.Intn(3) > 0}
			for range c.Intn(3) {
				v.Props = append(v.Props, api.Prop{Key: byte(edge()), Val: api.Value{Kind: byte(c.Intn(4)), N: int64(c.Intn(2))}})
				v.Halves = append(v.Halves, api.Half{Far: edge(), Val: api.Value{Kind: byte(c.Intn(4)), S: []string{"", "a", "A"}[c.Intn(3)]}})
			}
			should := graph.New().Put(v)
			want(t, "Put", s.Put(v), should)
			if should == api.OK {
				m[v.ID] = v
			}
			s.Get(edge())
			s.Range(edge(), edge())
			s.Naming(edge())
		}
		holdModel(t, s, m)
		p := make([]byte, c.Intn(60))
		for i := range p {
			p[i] = byte(c.Intn(1 << (1 + c.Intn(8))))
		}
		if s, e := store.Load(p); (e == api.OK) != isDump(p) || (s == nil) != (e != api.OK) {
			t.Fatalf("Load(% x) = %v, %v", p, s, e)
		}
	}
}

// P2: what stores tell depends on what they hold, and not on the way to it.
func TestAlike(t *testing.T) {
	c := chance{rand.New(rand.NewSource(7))}
	for range 200 {
		s, m := store.New(), &model{}
		for range 60 {
			v := c.vertex(12)
			want(t, "Put", s.Put(v), api.OK)
			m[v.ID] = v
		}
		list := m.list()
		c.Shuffle(len(list), func(i, j int) { list[i], list[j] = list[j], list[i] })
		holdModel(t, with(t, list...), m)
		holdModel(t, s, m)
	}
}
