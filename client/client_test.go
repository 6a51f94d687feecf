package client_test

import (
	"math"
	"reflect"
	"slices"
	"testing"

	"gusset/api"
	"gusset/client"
	"gusset/own"
)

// number is an Int.
func number(n int64) api.Value { return api.Value{Kind: api.Int, N: n} }

// text is a Text.
func text(s string) api.Value { return api.Value{Kind: api.Text, S: s} }

// add is an operation.
func add(v uint32) api.Op { return api.Op{Kind: api.OpAdd, A: v} }

// tx is a request of operations.
func tx(ops ...api.Op) api.Request { return api.Request{Kind: api.ReqTx, Ops: ops} }

// hops is a request of the vertices about one.
func hops(v uint32, k int) api.Request { return api.Request{Kind: api.ReqHops, V: v, K: k} }

// move is a request that a vertex moves.
func move(v uint32, to int) api.Request { return api.Request{Kind: api.ReqMove, V: v, To: to} }

// several is requests in form, of all kinds, that clients of one node may ask too.
func several() []api.Request {
	return []api.Request{
		tx(add(1)), hops(7, 0), move(1, 0), hops(1, 0), hops(40, 8), move(40, 0),
		tx(add(1), add(2), api.Op{Kind: api.OpJoin, A: 1, B: 2, Val: text("a.b")}),
		tx(
			api.Op{Kind: api.OpDel, A: 40}, api.Op{Kind: api.OpSet, A: 1, Key: 3, Val: number(-5)}, api.Op{Kind: api.OpGet, A: 3},
			api.Op{Kind: api.OpEdge, A: 4, B: 5}, api.Op{Kind: api.OpDegree, A: 6}, api.Op{Kind: api.OpNeed, A: 7, Val: text("")},
		),
		tx(api.Op{Kind: api.OpCut, A: 40, B: 1}),
	}
}

// opened is a client without a request.
func opened(t *testing.T, id byte, nodes int) *client.Client {
	t.Helper()
	c, e := client.New(id, nodes)
	if c == nil || e != api.OK {
		t.Fatalf("New(%d, %d) = %v, %v", id, nodes, c, e)
	}
	return c
}

// asked is the message by which a client asks.
func asked(id, home byte, seq uint32, r api.Request) api.Msg {
	return api.Msg{Kind: api.MsgRequest, From: id, To: home, Client: id, Seq: seq, Req: r}
}

// answered is a message by which a client is answered.
func answered(id byte, seq uint32, a api.Answer) api.Msg {
	return api.Msg{Kind: api.MsgAnswer, Client: id, Seq: seq, Ans: a}
}

// same tells whether two messages are the same; nil and empty lists are.
func same(a, b api.Msg) bool { return reflect.DeepEqual(own.Msg(a), own.Msg(b)) }

// alike tells whether two answers are the same; nil and empty lists are.
func alike(a, b api.Answer) bool { return reflect.DeepEqual(own.Answer(a), own.Answer(b)) }

// calls holds a Call against the message that it should answer.
func calls(t *testing.T, c *client.Client, r api.Request, should api.Msg) {
	t.Helper()
	if m, e := c.Call(r); !same(m, should) || e != api.OK {
		t.Fatalf("Call(%v) = %v, %v, not %v", r, m, e, should)
	}
	waits(t, c, should)
}

// refuses holds it that a Call answers just an error.
func refuses(t *testing.T, c *client.Client, r api.Request, should api.Errno) {
	t.Helper()
	if m, e := c.Call(r); !same(m, api.Msg{}) || e != should {
		t.Fatalf("Call(%v) = %v, %v, not %v", r, m, e, should)
	}
}

// waits holds it that the message's request is outstanding, and the last one.
func waits(t *testing.T, c *client.Client, should api.Msg) {
	t.Helper()
	for range 2 {
		if m, ok := c.Again(); !same(m, should) || !ok {
			t.Fatalf("Again = %v, %v, not %v", m, ok, should)
		}
	}
	if n := c.Seq(); n != should.Seq {
		t.Fatalf("Seq = %d, not %d", n, should.Seq)
	}
}

// idles holds it that no request is outstanding, and that the last one had the number.
func idles(t *testing.T, c *client.Client, seq uint32) {
	t.Helper()
	if m, ok := c.Again(); !same(m, api.Msg{}) || ok {
		t.Fatalf("Again = %v, %v", m, ok)
	}
	if n := c.Seq(); n != seq {
		t.Fatalf("Seq = %d, not %d", n, seq)
	}
}

// receives holds it that a message answers the request that is outstanding.
func receives(t *testing.T, c *client.Client, m api.Msg) {
	t.Helper()
	seq := c.Seq()
	if a, ok := c.Receive(m); !alike(a, m.Ans) || !ok {
		t.Fatalf("Receive(%v) = %v, %v", m, a, ok)
	}
	idles(t, c, seq)
}

// passes holds it that a message answers nothing.
func passes(t *testing.T, c *client.Client, m api.Msg) {
	t.Helper()
	if a, ok := c.Receive(m); !alike(a, api.Answer{}) || ok {
		t.Fatalf("Receive(%v) = %v, %v", m, a, ok)
	}
}

// P21.1, P21.2: the document's examples.
func TestExample(t *testing.T) {
	if c, e := client.New(5, 2); c != nil || e != api.ErrArg {
		t.Fatal(c, e)
	}
	c := opened(t, 3, 2)
	calls(t, c, hops(7, 0), asked(3, 1, 1, hops(7, 0)))
	refuses(t, c, hops(7, 0), api.ErrState)
	receives(t, c, answered(3, 1, api.Answer{}))
	passes(t, c, answered(3, 1, api.Answer{}))
}

// P21.1: which clients there are, of how many nodes.
func TestNew(t *testing.T) {
	for id := range 256 {
		for _, nodes := range []int{math.MinInt, -1 << 32, -4, -1, 0, 1, 2, 3, 4, 5, 6, 255, 256, 257, 1 << 32, 1<<32 + 1, math.MaxInt} {
			c, e := client.New(byte(id), nodes)
			if id < api.MaxClients && 1 <= nodes && nodes <= api.MaxNodes {
				if c == nil || e != api.OK {
					t.Fatalf("New(%d, %d) = %v, %v", id, nodes, c, e)
				}
				idles(t, c, 0)
			} else if c != nil || e != api.ErrArg {
				t.Fatalf("New(%d, %d) = %v, %v", id, nodes, c, e)
			}
		}
	}
}

// P21.1: a client that hasn't asked for anything isn't answered.
func TestNewReceive(t *testing.T) {
	c := opened(t, 0, 1)
	for _, seq := range []uint32{0, 1, 2, math.MaxUint32} {
		passes(t, c, answered(0, seq, api.Answer{At: 1}))
		idles(t, c, 0)
	}
	calls(t, c, hops(1, 1), asked(0, 0, 1, hops(1, 1)))
	receives(t, c, answered(0, 1, api.Answer{At: 1}))
}

// P21.1, P21.2: each client's requests go to its home, and are numbered from 1 on.
func TestHomes(t *testing.T) {
	for id := range byte(api.MaxClients) {
		for nodes := 1; nodes <= api.MaxNodes; nodes++ {
			c := opened(t, id, nodes)
			home := []byte{0, id % 2, id % 3, id}[nodes-1]
			for i, r := range several() {
				seq := uint32(i + 1)
				calls(t, c, r, asked(id, home, seq, r))
				refuses(t, c, r, api.ErrState)
				receives(t, c, answered(id, seq, api.Answer{At: i, List: []uint32{seq}}))
			}
		}
	}
}

// P21.2: a client's requests are numbered one behind the other, however many there are.
func TestNumbers(t *testing.T) {
	c := opened(t, 2, 4)
	for seq := uint32(1); seq <= 70000; seq++ {
		m, e := c.Call(hops(1, 1))
		if m.Seq != seq || e != api.OK || c.Seq() != seq {
			t.Fatalf("%d: %v, %v, %d", seq, m, e, c.Seq())
		}
		if _, ok := c.Receive(answered(2, seq, api.Answer{})); !ok || c.Seq() != seq {
			t.Fatalf("%d: %v, %d", seq, ok, c.Seq())
		}
	}
}

// wrong is requests that no client may ask, with why.
type wrong struct {
	why  api.Errno
	list []api.Request
}

// bad is all that is wrong.
func bad() []wrong {
	one, seven := []api.Op{add(1)}, slices.Repeat([]api.Op{add(1)}, 7)
	return []wrong{
		{api.ErrArg, []api.Request{
			{}, {Kind: 4, V: 1}, {Kind: 255, Ops: one}, hops(1, -1), hops(1, 9), hops(1, math.MaxInt), hops(1, math.MinInt), hops(0, 9),
			move(1, -1), move(1, 4), move(1, 5), move(1, math.MaxInt), move(1, math.MinInt), move(1, 1<<32), move(0, 4), move(41, -1),
		}},
		{api.ErrLong, []api.Request{tx(), tx(seven...), {Kind: api.ReqTx, V: 1}, tx(slices.Repeat([]api.Op{{}}, 1000)...)}},
		{api.ErrForm, []api.Request{
			tx(api.Op{}), tx(add(0)), tx(add(41)), tx(add(1), add(math.MaxUint32)), tx(api.Op{Kind: 10, A: 1}), tx(api.Op{Kind: api.OpAdd, A: 1, B: 2}),
			tx(api.Op{Kind: api.OpJoin, A: 1, B: 1}), tx(api.Op{Kind: api.OpGet, A: 1, Key: 4}),
			tx(api.Op{Kind: api.OpSet, A: 1, Val: text("too long, it is")}), tx(api.Op{Kind: api.OpSet, A: 1, Val: text("A")}),
			hops(0, 0), hops(41, 8), {Kind: api.ReqHops, V: 1, To: 1}, {Kind: api.ReqHops, V: 1, Ops: one},
			move(0, 0), move(41, 0), {Kind: api.ReqMove, V: 1, K: 1}, {Kind: api.ReqMove, V: 1, Ops: one},
			{Kind: api.ReqTx, Ops: one, To: 1}, {Kind: api.ReqTx, Ops: one, K: 1}, {Kind: api.ReqTx, Ops: one, V: 1},
			// To is looked at of a ReqMove alone.
			{Kind: api.ReqTx, Ops: one, To: 9}, {Kind: api.ReqHops, V: 1, To: 9}, {Kind: api.ReqHops, V: 1, To: -9},
		}},
	}
}

// P21.2: what isn't in form isn't asked for, whether a request is outstanding or not; nothing changes by that.
func TestRefused(t *testing.T) {
	for nodes := 1; nodes <= api.MaxNodes; nodes++ {
		c := opened(t, 1, nodes)
		home := byte(1 % nodes)
		for _, w := range bad() {
			for _, r := range w.list {
				seq := c.Seq()
				refuses(t, c, r, w.why)
				idles(t, c, seq)
				m := asked(1, home, seq+1, tx(add(3), add(4)))
				calls(t, c, m.Req, m)
				refuses(t, c, r, w.why)
				waits(t, c, m)
				receives(t, c, answered(1, seq+1, api.Answer{}))
				refuses(t, c, r, w.why)
				idles(t, c, seq+1)
			}
		}
	}
}

// P21.2: a vertex is asked to move to the client's nodes alone, and that goes ahead of all else that is wrong.
func TestMoves(t *testing.T) {
	for nodes := 1; nodes <= api.MaxNodes; nodes++ {
		c := opened(t, 0, nodes)
		for to := range api.MaxNodes + 2 {
			seq := c.Seq()
			if to < nodes {
				calls(t, c, move(5, to), asked(0, 0, seq+1, move(5, to)))
				refuses(t, c, move(5, to), api.ErrState)
				receives(t, c, answered(0, seq+1, api.Answer{E: api.ErrNone}))
				refuses(t, c, move(0, to), api.ErrForm)
				continue
			}
			for _, r := range []api.Request{move(5, to), move(0, to), move(41, to), {Kind: api.ReqMove, V: 5, K: 1, To: to}} {
				refuses(t, c, r, api.ErrArg)
				idles(t, c, seq)
			}
			m := asked(0, 0, seq+1, hops(1, 1))
			calls(t, c, m.Req, m)
			refuses(t, c, move(5, to), api.ErrArg)
			waits(t, c, m)
			receives(t, c, answered(0, seq+1, api.Answer{}))
		}
	}
}

// P21.2: while a request is outstanding no other one is asked for, and the one that is stays.
func TestOutstanding(t *testing.T) {
	for _, first := range several() {
		c := opened(t, 2, 3)
		m := asked(2, 2, 1, first)
		calls(t, c, first, m)
		for _, r := range several() {
			refuses(t, c, r, api.ErrState)
			waits(t, c, m)
		}
		receives(t, c, answered(2, 1, api.Answer{}))
		calls(t, c, move(2, 2), asked(2, 2, 2, move(2, 2)))
	}
}

// P21.2: what isn't a MsgAnswer answers nothing.
func TestKinds(t *testing.T) {
	c := opened(t, 1, 2)
	m := asked(1, 1, 1, hops(2, 2))
	calls(t, c, m.Req, m)
	for kind := range 256 {
		if kind != api.MsgAnswer {
			x := answered(1, 1, api.Answer{At: 3})
			x.Kind = byte(kind)
			passes(t, c, x)
			waits(t, c, m)
		}
	}
	passes(t, c, m)
	receives(t, c, answered(1, 1, api.Answer{At: 3}))
}

// P21.2: neither does what goes to another client.
func TestOthers(t *testing.T) {
	for id := range byte(api.MaxClients) {
		c := opened(t, id, 1)
		m := asked(id, 0, 1, hops(2, 2))
		calls(t, c, m.Req, m)
		for other := range 256 {
			if other != int(id) {
				x := answered(byte(other), 1, api.Answer{At: 3})
				x.From, x.To = id, id
				passes(t, c, x)
				waits(t, c, m)
			}
		}
		receives(t, c, answered(id, 1, api.Answer{At: 3}))
	}
}

// P21.2: nor what answers another request of it, an earlier or a later one, or a second time the same.
func TestLate(t *testing.T) {
	c := opened(t, 3, 3)
	for seq := uint32(1); seq <= 6; seq++ {
		m := asked(3, 0, seq, tx(add(seq)))
		calls(t, c, m.Req, m)
		for _, other := range []uint32{0, 1, 2, seq - 2, seq - 1, seq + 1, seq + 2, seq + 256, seq + 1<<16, math.MaxUint32} {
			if other != seq {
				passes(t, c, answered(3, other, api.Answer{At: 1}))
				waits(t, c, m)
			}
		}
		receives(t, c, answered(3, seq, api.Answer{At: 2}))
		for other := range seq + 3 {
			passes(t, c, answered(3, other, api.Answer{At: 3}))
			idles(t, c, seq)
		}
	}
}

// P21.2: what else an answer's message says doesn't matter.
func TestWhatever(t *testing.T) {
	for i, m := range []api.Msg{
		{From: 0}, {From: 3}, {From: 255, To: 255}, {To: 1}, {Tx: api.TxID{Node: 3, Inc: 9, Seq: 7}}, {Age: math.MaxUint64}, {Inc: 8},
		{Req: tx(add(1))}, {Wants: []api.Want{{V: 1, Mode: 1}}}, {Verts: []api.Vertex{{ID: 1}}}, {Dirs: []api.Entry{{V: 1}}},
		{Nodes: []byte{0, 1}}, {Num: 5}, {Credit: 6}, {Hops: -7},
	} {
		c := opened(t, 2, 4)
		calls(t, c, hops(2, 2), asked(2, 2, 1, hops(2, 2)))
		m.Kind, m.Client, m.Seq, m.Ans = api.MsgAnswer, 2, 1, api.Answer{At: i}
		receives(t, c, m)
	}
}

// P21.2: an answer is told as it is, whatever it says.
func TestAnswers(t *testing.T) {
	c := opened(t, 2, 4)
	for i, a := range []api.Answer{
		{}, {E: api.ErrAborted}, {E: api.ErrBusy}, {E: api.ErrEdges, At: 5}, {E: -1, At: math.MinInt}, {E: math.MaxInt, At: math.MaxInt},
		{Vals: []api.Value{{}, number(5), text("abc"), {}}}, {List: []uint32{1, 2, 3}}, {Vals: []api.Value{{Kind: 200, N: math.MinInt64, S: "no\x00form"}}},
		{List: make([]uint32, 5000), Vals: make([]api.Value, 5000)}, {Vals: []api.Value{}, List: []uint32{}}, {E: api.ErrNone, List: []uint32{0}},
	} {
		seq := uint32(i + 1)
		calls(t, c, hops(2, 2), asked(2, 2, seq, hops(2, 2)))
		receives(t, c, answered(2, seq, a))
	}
}

// A nil *Client asks for nothing, and isn't answered; what isn't in form is refused for that.
func TestNil(t *testing.T) {
	var c *client.Client
	for _, r := range []api.Request{tx(add(1)), hops(1, 1)} {
		refuses(t, c, r, api.ErrNone)
	}
	for _, w := range bad() {
		for _, r := range w.list {
			// Which nodes a nil *Client has isn't told.
			if r.Kind != api.ReqMove || w.why == api.ErrArg {
				refuses(t, c, r, w.why)
			}
		}
	}
	for seq := range uint32(2) {
		passes(t, c, answered(0, seq, api.Answer{At: 1}))
	}
	idles(t, c, 0)
}

// Clients know nothing of one another.
func TestApart(t *testing.T) {
	one, two := opened(t, 1, 2), opened(t, 1, 2)
	m := asked(1, 1, 1, hops(2, 2))
	calls(t, one, m.Req, m)
	idles(t, two, 0)
	passes(t, two, answered(1, 1, api.Answer{}))
	waits(t, one, m)
	calls(t, two, tx(add(1)), asked(1, 1, 1, tx(add(1))))
	receives(t, one, answered(1, 1, api.Answer{}))
	waits(t, two, asked(1, 1, 1, tx(add(1))))
}
