package node_test

import (
	"fmt"
	"maps"
	"math/rand"
	"reflect"
	"slices"
	"strconv"
	"testing"

	"gusset/api"
	"gusset/ghost"
	"gusset/graph"
	"gusset/node"
	"gusset/plate"
	"gusset/wire"
)

// caller is a client: one request at a time.
type caller struct {
	seq    uint32
	req    api.Request
	from   int
	open   bool
	answer api.Answer // to the last one
}

// reply is what a client was answered, with how many commits there were when it called and when it was answered.
type reply struct {
	client   byte
	seq      uint32
	req      api.Request
	ans      api.Answer
	from, to int
}

// world is nodes on their plates, clients, and the messages between them, as bytes.
type world struct {
	t testing.TB
	*rand.Rand
	nodes   []*node.Node // nil: it is down
	plates  []*plate.Plate
	clients []caller
	bag     [][]byte
	commits []node.Decision
	told    map[api.TxID]bool
	replies []reply
	owners  map[[2]uint32]byte // by vertex and epoch, as told by Served
	past    []string           // what was done, for whoever reads of a failure
	roams   bool               // most requests are traversals
	careful bool               // all that is handed in and answered is written over
}

// inParallel does something with each seed, with several at once.
func inParallel(t *testing.T, seeds int64, do func(*testing.T, int64)) {
	const rows = 8
	for row := range int64(rows) {
		t.Run(strconv.FormatInt(row, 10), func(t *testing.T) {
			t.Parallel()
			for seed := row; seed < seeds; seed += rows {
				do(t, seed)
			}
		})
	}
}

// newWorld is nodes that are up, and clients, without a vertex.
func newWorld(t testing.TB, nodes, clients int, seed int64) *world {
	t.Helper()
	return newWorldOf(t, nodes, clients, api.MaxPages, seed)
}

// newWorldOf is such a world with plates of so many pages.
func newWorldOf(t testing.TB, nodes, clients, pages int, seed int64) *world {
	t.Helper()
	w := &world{t: t, Rand: rand.New(rand.NewSource(seed)), told: map[api.TxID]bool{}, owners: map[[2]uint32]byte{}}
	w.clients = make([]caller, clients)
	for range nodes {
		p, _ := plate.New(pages)
		w.plates = append(w.plates, p)
		w.nodes = append(w.nodes, nil)
	}
	for i := range nodes {
		w.open(i)
		if w.nodes[i] == nil {
			t.Fatalf("node %d of %d isn't opened", i, nodes)
		}
	}
	w.past = append(w.past, fmt.Sprint("nodes ", nodes, " clients ", clients, " seed ", seed))
	return w
}

func (w *world) note(words ...any) { w.past = append(w.past, fmt.Sprintln(words...)) }

// fatal tells what went wrong, and what was done ahead of it.
func (w *world) fatal(words ...any) {
	w.t.Helper()
	from := max(0, len(w.past)-40)
	w.t.Fatal(fmt.Sprintln(words...), "behind ", w.past[0], len(w.past), " steps, the last ones:\n", w.past[from:])
}

// open opens a node on its plate, if the power lasts.
func (w *world) open(i int) {
	n, e := node.Open(byte(i), len(w.nodes), w.plates[i])
	if e == api.OK {
		w.nodes[i] = n
		w.behind(i, nil)
	} else if e != api.ErrDown {
		w.fatal("Open of", i, "answers", e)
	}
}

// behind takes what a node sends and tells behind all that it does.
func (w *world) behind(i int, sent []api.Msg) {
	n := w.nodes[i]
	for _, d := range taken(w, n.Decided()) {
		if !w.told[d.Tx] {
			w.told[d.Tx] = true
			w.commits = append(w.commits, d)
		}
	}
	for _, e := range taken(w, n.Served()) {
		if owner, ok := w.owners[[2]uint32{e.V, e.Epoch}]; ok && owner != e.Owner || int(e.Owner) != i {
			w.fatal("served", e, "by", i, "and", owner)
		}
		w.owners[[2]uint32{e.V, e.Epoch}] = e.Owner
	}
	if !n.Up() {
		if len(sent) > 0 {
			w.fatal("a node sends", sent, "and isn't up")
		}
		w.nodes[i] = nil
	}
	for _, m := range taken(w, sent) {
		w.put(m)
	}
}

// put puts a message into the bag.
func (w *world) put(m api.Msg) {
	p, e := wire.Encode(m)
	if e != api.OK {
		w.fatal("no bytes", m, e)
	}
	if len(w.bag) < api.MaxBag {
		w.bag = append(w.bag, p)
	}
}

// call lets a client ask something new.
func (w *world) call(c int, r api.Request) {
	w.note("call", c, r)
	k := &w.clients[c]
	k.seq, k.req, k.from, k.open = k.seq+1, r, len(w.commits), true
	w.again(c)
}

// again lets a client ask again.
func (w *world) again(c int) {
	if k := w.clients[c]; k.open {
		w.put(api.Msg{
			Kind: api.MsgRequest, From: byte(c), To: byte(c % len(w.nodes)), Client: byte(c), Seq: k.seq, Req: k.req,
		})
	}
}

// take takes the i-th message out of the bag.
func (w *world) take(i int) []byte {
	p := w.bag[i]
	w.bag = slices.Delete(w.bag, i, i+1)
	return p
}

// deliver brings a message to whom it goes to.
func (w *world) deliver(p []byte) {
	m, e := wire.Decode(p)
	if e != api.OK {
		w.fatal("no message", p, e)
	}
	if m.Kind == api.MsgAnswer {
		w.answered(m)
	} else if n := w.nodes[m.To]; n != nil {
		w.behind(int(m.To), w.handle(n, m))
	}
}

// answered is what a client gets.
func (w *world) answered(m api.Msg) {
	k := &w.clients[m.Client]
	if !k.open || k.seq != m.Seq {
		return
	}
	w.note("answer", m.Client, m.Seq, m.Ans)
	k.open, k.answer = false, m.Ans
	w.replies = append(w.replies, reply{m.Client, m.Seq, k.req, m.Ans, k.from, len(w.commits)})
}

// tick lets time go by at a node.
func (w *world) tick(i int) {
	if n := w.nodes[i]; n != nil {
		w.behind(i, n.Tick())
	}
}

// round delivers what is there, in order; then each node ticks, and each client asks again.
func (w *world) round() {
	for range len(w.bag) {
		w.deliver(w.take(0))
	}
	for i := range w.nodes {
		w.tick(i)
	}
	for c := range w.clients {
		w.again(c)
	}
}

// drain delivers all messages, in their order.
func (w *world) drain() {
	w.note("drain")
	for range 20000 {
		if len(w.bag) == 0 {
			return
		}
		w.deliver(w.take(0))
	}
	w.fatal("it never ends")
}

// muddle delivers all messages in any order, some of them more than once.
func (w *world) muddle() {
	w.note("muddle")
	for copies := 30; len(w.bag) > 0; {
		i := w.Intn(len(w.bag))
		if w.Intn(3) == 0 && copies > 0 {
			copies--
			w.deliver(w.bag[i])
			continue
		}
		w.deliver(w.take(i))
	}
}

// restart opens a node that is down, with any fate of what was written last.
func (w *world) restart(i int) {
	if w.nodes[i] != nil {
		return
	}
	if !w.plates[i].On() {
		var f plate.Fate
		for range w.Intn(8) {
			f.Keep = append(f.Keep, byte(w.Intn(4)))
		}
		w.note("restart", i, f)
		w.plates[i].Restart(f)
	} else {
		w.note("open", i)
	}
	w.open(i)
}

// up is the nodes that are up.
func (w *world) up() []int {
	var list []int
	for i, n := range w.nodes {
		if n != nil {
			list = append(list, i)
		}
	}
	return list
}

// entries is the owner of each vertex by the entries of nodes that are up, the newest epoch counting.
func (w *world) entries() map[uint32]api.Entry {
	all := map[uint32]api.Entry{}
	for v := uint32(1); v <= api.MaxVertex; v++ {
		all[v] = api.Entry{V: v, Owner: byte(int(v) % len(w.nodes))}
	}
	for _, i := range w.up() {
		for _, e := range taken(w, w.nodes[i].Dirs()) {
			if e.Epoch > all[e.V].Epoch {
				all[e.V] = e
			}
		}
	}
	return all
}

// held is what each node holds, by the vertices' numbers.
func (w *world) held() []map[uint32]api.Vertex {
	all := make([]map[uint32]api.Vertex, len(w.nodes))
	for _, i := range w.up() {
		all[i] = map[uint32]api.Vertex{}
		for _, v := range taken(w, w.nodes[i].Verts()) {
			all[i][v.ID] = v
		}
	}
	return all
}

// half is what v has of an edge to far.
func half(v api.Vertex, far uint32) (api.Value, bool) {
	for _, h := range v.Halves {
		if h.Far == far {
			return h.Val, true
		}
	}
	return api.Value{}, false
}

// doubted is the vertices of which a node is in doubt.
func doubted(n *node.Node) map[uint32]bool {
	list := map[uint32]bool{}
	if doubts, _, _ := n.Load(); doubts == 0 {
		return list
	}
	for v := uint32(1); v <= api.MaxVertex; v++ {
		if n.Doubt(v) {
			list[v] = true
		}
	}
	return list
}

// checkHalves is P5 and P22.3.
func (w *world) checkHalves() {
	w.t.Helper()
	owners, held := w.entries(), w.held()
	doubts, inDoubt := make([]map[uint32]bool, len(w.nodes)), map[uint32]bool{}
	holders := map[uint32][]int{}
	for _, i := range w.up() {
		doubts[i] = doubted(w.nodes[i])
		maps.Copy(inDoubt, doubts[i])
		for v := range held[i] {
			holders[v] = append(holders[v], i)
		}
		if got, want := taken(w, w.nodes[i].Ghosts()), ghost.Count(w.nodes[i].Verts()); !slices.Equal(got, want) {
			w.fatal("ghosts of", i, got, "not", want)
		}
	}
	for v, list := range holders {
		if len(list) > 1 && !inDoubt[v] {
			w.fatal("vertex", v, "is held by", list)
		}
		i := int(owners[v].Owner)
		if w.nodes[i] == nil || doubts[i][v] {
			continue
		}
		for _, h := range held[i][v].Halves {
			k := int(owners[h.Far].Owner)
			if w.nodes[k] == nil || doubts[k][v] || doubts[i][h.Far] || doubts[k][h.Far] {
				continue
			}
			if back, ok := half(held[k][h.Far], v); !ok || back != h.Val {
				w.fatal("edge", v, h, "at", i, "but at", k, back, ok)
			}
		}
	}
}

// checkOrder is P3, P4 and P22.2. It answers the graph behind all commits.
func (w *world) checkOrder() *graph.Graph {
	w.t.Helper()
	type key struct {
		client byte
		seq    uint32
	}
	g := graph.New()
	places, last := map[key]int{}, map[byte]uint32{}
	for i, d := range w.commits {
		if a := g.Do(d.Req); !same(a, d.Ans) {
			w.fatal("commit", i, d, "but the graph answers", a)
		}
		if d.Seq <= last[d.Client] {
			w.fatal("commit", i, d, "behind", last[d.Client])
		}
		places[key{d.Client, d.Seq}], last[d.Client] = i, d.Seq
	}
	for _, r := range w.replies {
		place, done := places[key{r.client, r.seq}]
		if given := r.ans.E == api.ErrAborted || r.ans.E == api.ErrBusy; given == done {
			w.fatal("reply", r, "has a commit:", done)
		}
		if done && (place < r.from || place >= r.to || !same(w.commits[place].Ans, r.ans) || !same(w.commits[place].Req, r.req)) {
			w.fatal("reply", r, "but at", place, w.commits[place])
		}
	}
	return g
}

// checkPlain is that nothing is under way, and that each node holds what it is to hold.
func (w *world) checkPlain() {
	w.t.Helper()
	for i, n := range w.nodes {
		if n == nil {
			w.fatal("node", i, "is down")
		}
		if doubts, locks, runs := n.Load(); doubts+locks+runs > 0 {
			w.fatal("node", i, "has", doubts, "doubts,", locks, "locks,", runs, "runs")
		}
		if !slices.Equal(n.Dirs(), w.nodes[0].Dirs()) {
			w.fatal("dirs", i, n.Dirs(), w.nodes[0].Dirs())
		}
	}
	g, owners, held := w.checkOrder(), w.entries(), w.held()
	for v := uint32(1); v <= api.MaxVertex; v++ {
		for i := range w.nodes {
			want := api.Vertex{}
			if owners[v].Owner == byte(i) && g.Vertex(v).There {
				want = g.Vertex(v)
			}
			if !same(held[i][v], want) {
				w.fatal("node", i, "holds", held[i][v], "not", want)
			}
		}
	}
}

// settle is P6 and P22.4: all is restarted, thirty rounds go by, and nothing is under way.
func (w *world) settle() {
	w.t.Helper()
	w.note("settle")
	for i := range w.nodes {
		w.plates[i].Arm(0)
		w.restart(i)
	}
	for range 30 {
		w.round()
		w.checkHalves()
	}
	for c, k := range w.clients {
		if k.open {
			w.fatal("client", c, "waits")
		}
	}
	w.checkPlain()
}

// value is a value in form.
func (w *world) value() api.Value {
	switch w.Intn(3) {
	case 0:
		return api.Value{}
	case 1:
		return api.Value{Kind: api.Int, N: w.Int63n(7) - 3}
	}
	return api.Value{Kind: api.Text, S: "abc.-09z"[:w.Intn(9)]}
}

// request is a request in form, about the first so many vertices.
func (w *world) request(most int) api.Request {
	v := func() uint32 { return uint32(1 + w.Intn(most)) }
	switch k := w.Intn(8); {
	case k == 0:
		return api.Request{Kind: api.ReqMove, V: v(), To: w.Intn(len(w.nodes))}
	case k < 3 || w.roams && k < 6:
		return api.Request{Kind: api.ReqHops, V: v(), K: w.Intn(api.MaxHops + 1)}
	}
	r := api.Request{Kind: api.ReqTx}
	for range 1 + w.Intn(1+w.Intn(api.MaxOps)) {
		op := api.Op{Kind: byte(1 + w.Intn(9)), A: v()}
		switch op.Kind {
		case api.OpJoin, api.OpCut, api.OpEdge:
			for op.B = v(); op.B == op.A; op.B = v() {
			}
		case api.OpSet, api.OpGet, api.OpNeed:
			op.Key = byte(w.Intn(2))
		}
		switch op.Kind {
		case api.OpJoin, api.OpSet:
			op.Val = w.value()
		}
		if op.Kind == api.OpDel && w.Intn(3) > 0 {
			op = api.Op{Kind: api.OpAdd, A: op.A}
		}
		r.Ops = append(r.Ops, op)
	}
	return r
}

// same holds two things against each other; nil and empty lists are the same.
func same[T any](a, b T) bool {
	return reflect.DeepEqual(plain(reflect.ValueOf(a)).Interface(), plain(reflect.ValueOf(b)).Interface())
}

// plain is v with nil for each empty list.
func plain(v reflect.Value) reflect.Value {
	to := reflect.New(v.Type()).Elem()
	switch {
	case v.Kind() == reflect.Struct:
		for i := range v.NumField() {
			to.Field(i).Set(plain(v.Field(i)))
		}
	case v.Kind() != reflect.Slice:
		to.Set(v)
	case v.Len() > 0:
		to.Set(reflect.MakeSlice(v.Type(), v.Len(), v.Len()))
		for i := range v.Len() {
			to.Index(i).Set(plain(v.Index(i)))
		}
	}
	return to
}
