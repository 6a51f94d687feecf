package client_test

import (
	"math/rand"
	"testing"

	"gusset/api"
	"gusset/bag"
	"gusset/client"
	"gusset/graph"
	"gusset/node"
	"gusset/plate"
	"gusset/wire"
)

// puts puts a message into the bag, as bytes.
func puts(t *testing.T, b *bag.Bag, m api.Msg) {
	t.Helper()
	p, e := wire.Encode(m)
	if e != api.OK || b.Put(p) != api.OK {
		t.Fatalf("%v: %v", m, e)
	}
}

// asks lets the client ask a node, which is alone, again and again till it is answered. What comes by chance may be lost,
// or come twice.
func asks(t *testing.T, r *rand.Rand, n *node.Node, c *client.Client, q api.Request) api.Answer {
	t.Helper()
	b := bag.New()
	m, e := c.Call(q)
	if e != api.OK {
		t.Fatalf("Call(%v) = %v", q, e)
	}
	puts(t, b, m)
	for range 1000 {
		if b.Len() == 0 {
			m, _ = c.Again()
			puts(t, b, m)
		}
		i := r.Intn(b.Len())
		p, _ := b.Copy(i)
		if r.Intn(3) > 0 {
			b.Drop(i)
		}
		if r.Intn(3) == 0 {
			continue
		}
		m, _ = wire.Decode(p)
		if m.Kind == api.MsgAnswer {
			if a, ok := c.Receive(m); ok {
				return a
			}
			continue
		}
		for _, sent := range n.Handle(m) {
			puts(t, b, sent)
		}
	}
	t.Fatalf("%v isn't answered", q)
	return api.Answer{}
}

// question is a request about a few vertices, by chance.
func question(r *rand.Rand) api.Request {
	a, b := 1+uint32(r.Intn(4)), 5+uint32(r.Intn(4))
	switch r.Intn(4) {
	case 0:
		return hops(a, 2)
	case 1:
		return tx(api.Op{Kind: api.OpJoin, A: a, B: b, Val: number(r.Int63())}, api.Op{Kind: api.OpDegree, A: a})
	case 2:
		return tx(add(a))
	}
	return tx(add(b))
}

// P21.2: whoever asks till it is answered is answered as a graph does it, each request being done once.
func TestWhole(t *testing.T) {
	for seed := range int64(20) {
		r := rand.New(rand.NewSource(seed))
		p, _ := plate.New(api.MaxPages)
		n, e := node.Open(0, 1, p)
		if e != api.OK {
			t.Fatal(e)
		}
		var clients []*client.Client
		for id := range byte(api.MaxClients) {
			clients = append(clients, opened(t, id, 1))
		}
		g := graph.New()
		for range 60 {
			q := question(r)
			if a, should := asks(t, r, n, clients[r.Intn(len(clients))], q), g.Do(q); !alike(a, should) {
				t.Fatalf("%v is answered %v, not %v", q, a, should)
			}
		}
	}
}
