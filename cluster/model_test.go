package cluster_test

import (
	"fmt"
	"slices"
	"testing"

	"gusset/api"
	"gusset/client"
	"gusset/cluster"
	"gusset/ghost"
	"gusset/node"
	"gusset/plate"
)

// model does what the chapter says, word by word. Its messages aren't bytes, and what a node tells is gone through anew
// each time.
type model struct {
	nodes   []*node.Node
	down    []bool
	plates  []*plate.Plate
	clients []*client.Client
	called  []cluster.Reply // of each client what is known of the reply to its last request
	bag     []api.Msg
	decided []node.Decision
	replies []cluster.Reply
	served  []api.Entry
}

func newModel(nodes, clients int) *model {
	m := &model{down: make([]bool, nodes), nodes: make([]*node.Node, nodes), called: make([]cluster.Reply, clients)}
	for i := range nodes {
		p, _ := plate.New(api.MaxPages)
		m.plates = append(m.plates, p)
		m.open(i)
	}
	for i := range clients {
		c, _ := client.New(byte(i), nodes)
		m.clients = append(m.clients, c)
	}
	return m
}

// Do does a step that any client and any node there is may be named in.
func (m *model) Do(s cluster.Step) api.Errno {
	isClient, isNode := s.A >= 0 && s.A < len(m.clients), s.A >= 0 && s.A < len(m.nodes)
	switch s.Kind {
	case cluster.Call:
		if !isClient {
			return api.ErrArg
		}
		sent, e := m.clients[s.A].Call(s.Req)
		if e == api.OK {
			m.called[s.A] = cluster.Reply{Client: byte(s.A), Seq: sent.Seq, Req: sent.Req, From: len(m.Commits())}
			m.put(sent)
		}
		return e
	case cluster.Deliver, cluster.Copy, cluster.Drop, cluster.Hold:
		return m.doMessage(s)
	case cluster.Again:
		if !isClient {
			return api.ErrArg
		}
		m.again(s.A)
	case cluster.Timer:
		if !isNode {
			return api.ErrArg
		}
		m.tick(s.A)
	case cluster.Crash, cluster.Restart, cluster.Arm, cluster.Checkpoint:
		switch {
		case !isNode || s.Kind == cluster.Arm && s.B < 0:
			return api.ErrArg
		case m.down[s.A] != (s.Kind == cluster.Restart):
			return api.ErrState
		}
		m.doNode(s)
	case cluster.Round:
		there := slices.Clone(m.bag)
		for _, msg := range there {
			m.bag = m.bag[1:]
			m.deliver(msg)
		}
		for i := range m.nodes {
			m.tick(i)
		}
		for i := range m.clients {
			m.again(i)
		}
	case cluster.Drain:
		for n := 0; n < 20000 && len(m.bag) > 0; n++ {
			m.doMessage(cluster.Step{Kind: cluster.Deliver})
		}
	default:
		return api.ErrArg
	}
	return api.OK
}

func (m *model) doMessage(s cluster.Step) api.Errno {
	if s.A < 0 || s.A >= len(m.bag) {
		return api.ErrNone
	}
	msg := m.bag[s.A]
	if s.Kind != cluster.Copy {
		m.bag = slices.Concat(m.bag[:s.A], m.bag[s.A+1:])
	}
	switch s.Kind {
	case cluster.Hold:
		m.bag = append(m.bag, msg)
	case cluster.Deliver, cluster.Copy:
		m.deliver(msg)
	}
	return api.OK
}

func (m *model) doNode(s cluster.Step) {
	switch s.Kind {
	case cluster.Crash:
		m.down[s.A] = true
	case cluster.Restart:
		if !m.plates[s.A].On() {
			m.plates[s.A].Restart(s.Fate)
		}
		m.open(s.A)
	case cluster.Arm:
		m.plates[s.A].Arm(s.B)
	case cluster.Checkpoint:
		m.nodes[s.A].Checkpoint()
		m.behind(s.A, nil)
	}
}

func (m *model) open(i int) {
	n, e := node.Open(byte(i), len(m.nodes), m.plates[i])
	m.nodes[i], m.down[i] = n, e != api.OK
	m.behind(i, nil)
}

func (m *model) tick(i int) {
	if !m.down[i] {
		m.behind(i, m.nodes[i].Tick())
	}
}

func (m *model) again(i int) {
	if msg, open := m.clients[i].Again(); open {
		m.put(msg)
	}
}

func (m *model) deliver(msg api.Msg) {
	if msg.Kind != api.MsgAnswer {
		if i := int(msg.To); !m.down[i] {
			m.behind(i, m.nodes[i].Handle(msg))
		}
		return
	}
	if ans, ok := m.clients[msg.Client].Receive(msg); ok {
		r := m.called[msg.Client]
		r.Ans, r.To = ans, len(m.Commits())
		m.replies = append(m.replies, r)
	}
}

func (m *model) behind(i int, sent []api.Msg) {
	m.decided = append(m.decided, m.nodes[i].Decided()...)
	m.served = append(m.served, m.nodes[i].Served()...)
	m.down[i] = m.down[i] || !m.plates[i].On()
	for _, msg := range sent {
		m.put(msg)
	}
}

func (m *model) put(msg api.Msg) {
	if len(m.bag) < api.MaxBag {
		m.bag = append(m.bag, msg)
	}
}

// Commits is each of the decided transactions, where it was told first.
func (m *model) Commits() []node.Decision {
	var list []node.Decision
	for _, d := range m.decided {
		if !slices.ContainsFunc(list, func(o node.Decision) bool { return o.Tx == d.Tx }) {
			list = append(list, d)
		}
	}
	return list
}

func (m *model) Replies() []cluster.Reply { return m.replies }

func (m *model) Served() []api.Entry { return m.served }

func (m *model) Bag() int { return len(m.bag) }

func (m *model) Waits(client int) bool {
	if client < 0 || client >= len(m.clients) {
		return false
	}
	_, open := m.clients[client].Again()
	return open
}

// node is a node that is up, or nil.
func (m *model) node(n int) *node.Node {
	if n < 0 || n >= len(m.nodes) || m.down[n] {
		return nil
	}
	return m.nodes[n]
}

func (m *model) Up(n int) bool { return m.node(n) != nil }

func (m *model) Verts(n int) []api.Vertex { return m.node(n).Verts() }

func (m *model) Ghosts(n int) []ghost.Ghost { return ghost.Count(m.node(n).Verts()) }

func (m *model) Dirs(n int) []api.Entry { return m.node(n).Dirs() }

func (m *model) Doubt(n int, v uint32) bool { return m.node(n).Doubt(v) }

func (m *model) Load(n int) (int, int, int) { return m.node(n).Load() }

// teller is a cluster, or a model of one.
type teller interface {
	Commits() []node.Decision
	Replies() []cluster.Reply
	Waits(client int) bool
	Up(n int) bool
	Verts(n int) []api.Vertex
	Ghosts(n int) []ghost.Ghost
	Dirs(n int) []api.Entry
	Doubt(n int, v uint32) bool
	Load(n int) (int, int, int)
	Served() []api.Entry
	Bag() int
}

// all is all that a cluster tells, of clients and nodes that there are not, too.
func all(c teller) string {
	told := fmt.Sprintf("%+v %+v %+v %d\n", c.Commits(), c.Replies(), c.Served(), c.Bag())
	for n := -1; n <= api.MaxNodes; n++ {
		told += fmt.Sprintf("%d: %t %t %+v %+v %+v", n, c.Waits(n), c.Up(n), c.Verts(n), c.Ghosts(n), c.Dirs(n))
		told += fmt.Sprintln(c.Load(n))
		for v := range uint32(api.MaxVertex + 2) {
			if c.Doubt(n, v) {
				told += fmt.Sprintln("doubt", v)
			}
		}
	}
	return told
}

// wild is a step that may be one that is refused.
func (w *world) wild() cluster.Step {
	s := w.step(evenly())
	switch w.Intn(30) {
	case 0:
		s.A = w.Intn(7) - 2
	case 1:
		s.B = -1 - w.Intn(2)
	case 2:
		s.Kind = byte([]int{0, 14, 255}[w.Intn(3)])
	case 3:
		s.Kind = byte(w.Intn(14))
	case 4:
		s.Req = api.Request{Kind: byte(w.Intn(5)), V: uint32(w.Intn(50)), K: w.Intn(12) - 1, To: w.Intn(7) - 1}
	}
	return s
}

// P22.1: whatever the steps are, a cluster answers and tells what the model does.
func TestModel(t *testing.T) {
	inParallel(t, 160, func(t *testing.T, seed int64) {
		w := newWorld(t, 1+int(seed)%4, 1+int(seed/4)%4, seed)
		m := newModel(w.nodes, w.clients)
		for range 150 {
			s := w.wild()
			if got, should := w.try(s), m.Do(s); got != should {
				w.wrong("it answers", got, "not", should)
			}
			if got, should := all(w), all(m); got != should {
				w.wrong("it tells", got, "not", should)
			}
		}
	})
}

// P2: what is told hangs on the steps alone: the same ones again, and all is the same, whatever is asked in between.
func TestSameAgain(t *testing.T) {
	inParallel(t, 160, func(t *testing.T, seed int64) {
		w := newWorld(t, 1+int(seed)%4, 1+int(seed/4)%4, seed)
		twin := newWorld(t, w.nodes, w.clients, seed)
		var answers []api.Errno
		for range 300 {
			answers = append(answers, w.try(w.wild()))
			all(w)
		}
		for i, s := range w.steps {
			if e := twin.try(s); e != answers[i] {
				twin.wrong("it answers", e, "not", answers[i])
			}
		}
		if all(w) != all(twin) {
			twin.wrong("it tells", all(twin), "not", all(w))
		}
	})
}

// evenly is how often each kind of step comes, where all come now and then.
func evenly() weights {
	return weights{
		cluster.Call: 20, cluster.Deliver: 60, cluster.Copy: 6, cluster.Drop: 4, cluster.Hold: 6, cluster.Timer: 6,
		cluster.Again: 6, cluster.Crash: 2, cluster.Restart: 8, cluster.Arm: 3, cluster.Checkpoint: 2, cluster.Round: 2,
		cluster.Drain: 1,
	}
}
