package cluster

import (
	"gusset/api"
	"gusset/node"
	"gusset/plate"
	"gusset/wire"
)

// mostDrained is how many messages a Drain delivers at most.
const mostDrained = 20000

// Do does a step.
func (c *Cluster) Do(s Step) api.Errno {
	switch {
	case !c.mayBe(s):
		return api.ErrArg
	case c == nil:
		return askNone(s)
	}
	switch s.Kind {
	case Call:
		return c.call(s.A, s.Req)
	case Deliver:
		return c.bring(c.bag.Take(s.A))
	case Copy:
		return c.bring(c.bag.Copy(s.A))
	case Drop:
		return c.bag.Drop(s.A)
	case Hold:
		return c.bag.Hold(s.A)
	case Timer:
		c.tick(s.A)
	case Again:
		c.again(s.A)
	case Restart:
		return c.restart(s.A, s.Fate)
	case Crash, Arm, Checkpoint:
		return c.toUp(s)
	case Round:
		c.round()
	case Drain:
		c.drain()
	}
	return api.OK
}

// mayBe tells whether there is such a step, and the client or the node that it names. Of a nil cluster any number from 0
// on may be one.
func (c *Cluster) mayBe(s Step) bool {
	switch s.Kind {
	case Deliver, Copy, Drop, Hold, Round, Drain:
		return true
	case Call, Again:
		return s.A >= 0 && (c == nil || s.A < len(c.callers))
	case Arm:
		if s.B < 0 {
			return false
		}
		fallthrough
	case Timer, Crash, Restart, Checkpoint:
		return s.A >= 0 && (c == nil || s.A < len(c.nodes))
	}
	return false
}

// askNone is why a nil cluster does nothing: what a client that is none has against the request goes ahead.
func askNone(s Step) api.Errno {
	if s.Kind == Call {
		_, e := caller{}.Call(s.Req)
		return e
	}
	return api.ErrNone
}

// call lets a client call.
func (c *Cluster) call(i int, r api.Request) api.Errno {
	who := &c.callers[i]
	m, e := who.Call(r)
	if e != api.OK {
		return e
	}
	who.req, who.from = m.Req, len(c.commits)
	c.put(m)
	return api.OK
}

// again lets a client ask once more for what is outstanding.
func (c *Cluster) again(i int) {
	if m, ok := c.callers[i].Again(); ok {
		c.put(m)
	}
}

// bring brings a message, if the bag had it, to whom it goes to.
func (c *Cluster) bring(p []byte, e api.Errno) api.Errno {
	if e != api.OK {
		return e
	}
	m, _ := wire.Decode(p) // whatever is in the bag was encoded
	if m.Kind == api.MsgAnswer {
		c.answer(m)
		return api.OK
	}
	to := int(m.To)
	c.behind(to, c.node(to).Handle(m))
	return api.OK
}

// answer brings a client what it is answered.
func (c *Cluster) answer(m api.Msg) {
	if int(m.Client) >= len(c.callers) {
		return
	}
	who := &c.callers[m.Client]
	if ans, ok := who.Receive(m); ok {
		c.replies = append(c.replies, Reply{m.Client, m.Seq, who.req, ans, who.from, len(c.commits)})
	}
}

// tick lets time go by at a node.
func (c *Cluster) tick(i int) { c.behind(i, c.node(i).Tick()) }

// restart opens a node that is down, if the power lasts.
func (c *Cluster) restart(i int, f plate.Fate) api.Errno {
	if c.Up(i) {
		return api.ErrState
	}
	if !c.plates[i].On() {
		c.plates[i].Restart(f)
	}
	c.open(i)
	return api.OK
}

// open opens a node on its plate.
func (c *Cluster) open(i int) api.Errno {
	n, e := node.Open(byte(i), len(c.nodes), c.plates[i])
	if e != api.OK {
		return e
	}
	c.nodes[i] = n
	c.behind(i, nil)
	return api.OK
}

// toUp does a step that only a node that is up can do.
func (c *Cluster) toUp(s Step) api.Errno {
	if !c.Up(s.A) {
		return api.ErrState
	}
	switch s.Kind {
	case Crash:
		c.nodes[s.A] = nil
	case Arm:
		return c.plates[s.A].Arm(s.B)
	case Checkpoint:
		// That the power goes in the midst is no refusal: it has come so far.
		c.nodes[s.A].Checkpoint()
		c.behind(s.A, nil)
	}
	return api.OK
}

// round brings what is there to where it goes to, and lets time go by for all.
func (c *Cluster) round() {
	for range c.bag.Len() {
		c.bring(c.bag.Take(0))
	}
	for i := range c.nodes {
		c.tick(i)
	}
	for i := range c.callers {
		c.again(i)
	}
}

// drain brings messages to where they go to, till there is none.
func (c *Cluster) drain() {
	for n := 0; n < mostDrained && c.bag.Len() > 0; n++ {
		c.bring(c.bag.Take(0))
	}
}

// behind takes what a node tells, and what it sends, behind all that it does.
func (c *Cluster) behind(i int, sent []api.Msg) {
	n := c.node(i)
	for _, d := range n.Decided() {
		if _, told := c.told[d.Tx]; !told {
			c.told[d.Tx] = struct{}{}
			c.commits = append(c.commits, d)
		}
	}
	c.served = append(c.served, n.Served()...)
	for _, m := range sent {
		c.put(m)
	}
	if n != nil && !n.Up() {
		c.nodes[i] = nil
	}
}

// put puts a message into the bag. What the bag refuses is lost.
func (c *Cluster) put(m api.Msg) {
	if p, e := wire.Encode(m); e == api.OK {
		c.bag.Put(p)
	}
}
