package client_test

import (
	"math"
	"math/rand"
	"testing"

	"gusset/api"
	"gusset/client"
)

// model is what is known of a client: all that it has asked by, and how many of these are answered.
type model struct {
	id, home byte
	nodes    int
	past     []api.Msg
	done     int
}

// holds holds all that the client tells against its model.
func (m *model) holds(t *testing.T, c *client.Client) {
	t.Helper()
	if m.done < len(m.past) {
		waits(t, c, m.past[len(m.past)-1])
	} else {
		idles(t, c, uint32(len(m.past)))
	}
}

// calls lets the client ask for a request in form.
func (m *model) calls(t *testing.T, c *client.Client, r api.Request) {
	t.Helper()
	switch {
	case r.Kind == api.ReqMove && r.To >= m.nodes:
		refuses(t, c, r, api.ErrArg)
	case m.done < len(m.past):
		refuses(t, c, r, api.ErrState)
	default:
		m.past = append(m.past, asked(m.id, m.home, uint32(len(m.past)+1), r))
		calls(t, c, r, m.past[len(m.past)-1])
	}
}

// receives lets a message come to the client.
func (m *model) receives(t *testing.T, c *client.Client, x api.Msg) {
	t.Helper()
	if m.done < len(m.past) && x.Kind == api.MsgAnswer && x.Client == m.id && int(x.Seq) == len(m.past) {
		m.done++
		receives(t, c, x)
	} else {
		passes(t, c, x)
	}
}

// request is a request in form, by chance.
func request(r *rand.Rand) api.Request {
	switch r.Intn(3) {
	case 0:
		return hops(1+uint32(r.Intn(40)), r.Intn(9))
	case 1:
		return move(1+uint32(r.Intn(40)), r.Intn(4))
	}
	var ops []api.Op
	for range 1 + r.Intn(6) {
		ops = append(ops, api.Op{Kind: api.OpSet, A: 1 + uint32(r.Intn(40)), Key: byte(r.Intn(4)), Val: number(r.Int63())})
	}
	return tx(ops...)
}

// P21.1, P21.2: steps by chance.
func TestByChance(t *testing.T) {
	for seed := range int64(400) {
		r := rand.New(rand.NewSource(seed))
		m := &model{id: byte(seed % 4), nodes: 1 + int(seed/4)%4}
		m.home = byte(int(m.id) % m.nodes)
		c := opened(t, m.id, m.nodes)
		for range 200 {
			switch r.Intn(3) {
			case 0:
				m.calls(t, c, request(r))
			case 1:
				x := answered(m.id, uint32(len(m.past)-2+r.Intn(4)), api.Answer{At: r.Int(), List: []uint32{r.Uint32()}})
				if r.Intn(5) == 0 {
					x.Client = byte(r.Intn(5))
				}
				if r.Intn(5) == 0 {
					x.Kind = byte(r.Intn(15))
				}
				m.receives(t, c, x)
			case 2:
				for _, w := range bad() {
					refuses(t, c, w.list[r.Intn(len(w.list))], w.why)
				}
			}
			m.holds(t, c)
		}
	}
}

// P1: no argument, however strange, makes a call panic, and nothing goes wrong by it.
func TestStrange(t *testing.T) {
	r := rand.New(rand.NewSource(1))
	numbers := []int{0, 1, -1, 2, 8, 9, 40, 41, 255, 1 << 32, math.MaxInt, math.MinInt}
	some := func() int { return numbers[r.Intn(len(numbers))] }
	var none *client.Client
	for range 20000 {
		q := api.Request{Kind: byte(some()), V: uint32(some()), K: some(), To: some()}
		for range r.Intn(9) {
			q.Ops = append(q.Ops, api.Op{
				Kind: byte(some()), A: uint32(some()), B: uint32(some()), Key: byte(some()),
				Val: api.Value{Kind: byte(some()), N: int64(some()), S: "abc def"[:r.Intn(8)]},
			})
		}
		x := answered(byte(some()), uint32(some()), api.Answer{E: api.Errno(some()), At: some()})
		x.Kind = byte(some())
		for _, c := range []*client.Client{none, opened(t, byte(r.Intn(4)), 1+r.Intn(4))} {
			m, e := c.Call(q)
			if (e == api.OK) != (m.Seq == 1) || e != api.OK && !same(m, api.Msg{}) {
				t.Fatalf("Call(%v) = %v, %v", q, m, e)
			}
			if a, ok := c.Receive(x); !ok && !alike(a, api.Answer{}) {
				t.Fatalf("Receive(%v) = %v, %v", x, a, ok)
			}
			if m, ok := c.Again(); !ok && !same(m, api.Msg{}) {
				t.Fatalf("Again = %v, %v", m, ok)
			}
		}
	}
}
