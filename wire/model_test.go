package wire_test

import (
	"encoding/binary"
	"math"
	"math/rand"
	"slices"
	"strings"

	"gusset/api"
)

// The kinds of fields that the bytes of a message have.
const (
	octet = iota
	msgKind
	flag
	small // a rank.Uint of 32 bits
	large // a rank.Uint
	signed
	count
	valueKind
	text
)

// field is a piece of a message's bytes.
type field struct {
	what int
	code []byte
}

// fields is a message's bytes, told field by field, whatever stands in them.
type fields struct{ list []field }

func (f *fields) put(what int, code ...byte) { f.list = append(f.list, field{what, code}) }

// bytes is all fields, one behind the other.
func (f *fields) bytes() []byte {
	var p []byte
	for _, one := range f.list {
		p = append(p, one.code...)
	}
	return p
}

func (f *fields) octets(list ...byte) {
	for _, b := range list {
		f.put(octet, b)
	}
}

func (f *fields) smalls(list ...uint32) {
	for _, n := range list {
		f.put(small, uintCode(uint64(n))...)
	}
}

func (f *fields) larges(list ...uint64) {
	for _, n := range list {
		f.put(large, uintCode(n)...)
	}
}

func (f *fields) signeds(list ...int) {
	for _, n := range list {
		f.put(signed, intCode(int64(n))...)
	}
}

func (f *fields) count(n int) { f.put(count, uintCode(uint64(n))...) }

func (f *fields) value(v api.Value) {
	f.put(valueKind, v.Kind)
	if v.Kind == api.Int {
		f.put(signed, intCode(v.N)...)
	}
	if v.Kind == api.Text {
		f.put(text, textCode(v.S)...)
	}
}

func (f *fields) vertex(v api.Vertex) {
	f.smalls(v.ID)
	there := byte(0)
	if v.There {
		there = 1
	}
	f.put(flag, there)
	f.count(len(v.Props))
	for _, p := range v.Props {
		f.octets(p.Key)
		f.value(p.Val)
	}
	f.count(len(v.Halves))
	for _, h := range v.Halves {
		f.smalls(h.Far)
		f.value(h.Val)
	}
}

func (f *fields) request(r api.Request) {
	f.octets(r.Kind)
	f.count(len(r.Ops))
	for _, o := range r.Ops {
		f.octets(o.Kind)
		f.smalls(o.A, o.B)
		f.octets(o.Key)
		f.value(o.Val)
	}
	f.smalls(r.V)
	f.signeds(r.K, r.To)
}

func (f *fields) answer(a api.Answer) {
	f.signeds(int(a.E), a.At)
	f.count(len(a.Vals))
	for _, v := range a.Vals {
		f.value(v)
	}
	f.count(len(a.List))
	f.smalls(a.List...)
}

func (f *fields) message(m api.Msg) {
	f.put(msgKind, m.Kind)
	f.octets(m.From, m.To, m.Tx.Node)
	f.smalls(m.Tx.Inc, m.Tx.Seq)
	f.larges(m.Age)
	f.smalls(m.Inc)
	f.octets(m.Client)
	f.smalls(m.Seq)
	f.request(m.Req)
	f.answer(m.Ans)
	f.count(len(m.Wants))
	for _, w := range m.Wants {
		f.smalls(w.V)
		f.octets(w.Mode)
	}
	f.count(len(m.Verts))
	for _, v := range m.Verts {
		f.vertex(v)
	}
	f.count(len(m.Dirs))
	for _, d := range m.Dirs {
		f.smalls(d.V)
		f.octets(d.Owner)
		f.smalls(d.Epoch)
	}
	f.count(len(m.Nodes))
	f.octets(m.Nodes...)
	f.larges(m.Num, m.Credit)
	f.signeds(m.Hops)
}

// fieldsOf is a message's bytes by the document, whether it may be written or not.
func fieldsOf(m api.Msg) *fields {
	f := &fields{}
	f.message(m)
	return f
}

// vertexFieldsOf is a vertex' bytes by the document, whether it may be written or not.
func vertexFieldsOf(v api.Vertex) *fields {
	f := &fields{}
	f.vertex(v)
	return f
}

// uintCode is a rank.Uint.
func uintCode(n uint64) []byte {
	p := binary.BigEndian.AppendUint64(nil, n)
	for len(p) > 0 && p[0] == 0 {
		p = p[1:]
	}
	return append([]byte{byte(len(p))}, p...)
}

// intCode is a rank.Int.
func intCode(n int64) []byte {
	if n >= 0 {
		code := uintCode(uint64(n))
		code[0] += 0x10
		return code
	}
	code := uintCode(uint64(-1 - n))
	for i := range code {
		code[i] = 0xff - code[i]
	}
	code[0] += 0x10
	return code
}

// textCode is a rank.Text.
func textCode(s string) []byte {
	return []byte(strings.ReplaceAll(s, "\x00", "\x00\xff") + "\x00\x00")
}

// cursor reads what stands in bytes by the document, and notes whether that could be.
type cursor struct {
	p   []byte
	bad bool
}

func (c *cursor) take(n int) []byte {
	if n > len(c.p) {
		c.bad = true
		return make([]byte, n)
	}
	p := c.p[:n]
	c.p = c.p[n:]
	return p
}

func (c *cursor) octet() byte { return c.take(1)[0] }

// digits is the number that n bytes tell, which are no more than there must be.
func (c *cursor) digits(n int, turn byte) uint64 {
	if n > 8 {
		c.bad = true
		return 0
	}
	var all uint64
	for i, b := range c.take(n) {
		if i == 0 && b == turn {
			c.bad = true
		}
		all = all*256 + uint64(b^turn)
	}
	return all
}

func (c *cursor) uint(most uint64) uint64 {
	n := c.digits(int(c.octet()), 0)
	c.bad = c.bad || n > most
	return n
}

func (c *cursor) small() uint32 { return uint32(c.uint(math.MaxUint32)) }

// count is how many things there are, at most most; none, if that can't be.
func (c *cursor) count(most uint64) int {
	n := c.uint(most)
	if c.bad {
		return 0
	}
	return int(n)
}

func (c *cursor) int() int64 {
	lead := int(c.octet())
	var n uint64
	if lead >= 0x10 {
		n = c.digits(lead-0x10, 0)
	} else {
		n = c.digits(0x0f-lead, 0xff)
	}
	if n > math.MaxInt64 {
		c.bad = true
		return 0
	}
	if lead >= 0x10 {
		return int64(n)
	}
	return -1 - int64(n)
}

// text is what a Text may have: so no byte of its code stands for another one but the 00 00 at its end.
func (c *cursor) text() string {
	var s string
	for b := c.octet(); b != 0; b = c.octet() {
		s += string(rune(b))
		if !strings.ContainsRune("abcdefghijklmnopqrstuvwxyz0123456789.-", rune(b)) || len(s) > 8 {
			c.bad = true
			return ""
		}
	}
	end := c.octet()
	c.bad = c.bad || end != 0
	return s
}

func (c *cursor) value() (v api.Value) {
	v.Kind = c.octet()
	switch v.Kind {
	case 0:
	case 1:
		v.N = c.int()
	case 2:
		v.S = c.text()
	default:
		c.bad = true
	}
	return v
}

func (c *cursor) vertex() (v api.Vertex) {
	v.ID = c.small()
	there := c.octet()
	v.There = there == 1
	c.bad = c.bad || there > 1
	for range c.count(4) {
		v.Props = append(v.Props, api.Prop{Key: c.octet(), Val: c.value()})
	}
	for range c.count(16) {
		v.Halves = append(v.Halves, api.Half{Far: c.small(), Val: c.value()})
	}
	return v
}

func (c *cursor) request() (r api.Request) {
	r.Kind = c.octet()
	for range c.count(6) {
		r.Ops = append(r.Ops, api.Op{Kind: c.octet(), A: c.small(), B: c.small(), Key: c.octet(), Val: c.value()})
	}
	r.V = c.small()
	r.K = int(c.int())
	r.To = int(c.int())
	return r
}

func (c *cursor) answer() (a api.Answer) {
	a.E = api.Errno(c.int())
	a.At = int(c.int())
	for range c.count(6) {
		a.Vals = append(a.Vals, c.value())
	}
	for range c.count(40) {
		a.List = append(a.List, c.small())
	}
	return a
}

func (c *cursor) message() (m api.Msg) {
	m.Kind = c.octet()
	c.bad = c.bad || m.Kind < 1 || m.Kind > 14
	m.From = c.octet()
	m.To = c.octet()
	m.Tx = api.TxID{Node: c.octet(), Inc: c.small(), Seq: c.small()}
	m.Age = c.uint(math.MaxUint64)
	m.Inc = c.small()
	m.Client = c.octet()
	m.Seq = c.small()
	m.Req = c.request()
	m.Ans = c.answer()
	for range c.count(40) {
		m.Wants = append(m.Wants, api.Want{V: c.small(), Mode: c.octet()})
	}
	for range c.count(12) {
		m.Verts = append(m.Verts, c.vertex())
	}
	for range c.count(4) {
		m.Dirs = append(m.Dirs, api.Entry{V: c.small(), Owner: c.octet(), Epoch: c.small()})
	}
	for range c.count(4) {
		m.Nodes = append(m.Nodes, c.octet())
	}
	m.Num = c.uint(math.MaxUint64)
	m.Credit = c.uint(math.MaxUint64)
	m.Hops = int(c.int())
	return m
}

// readMessage is the message of which p is the bytes by the document; false: there is none.
func readMessage(p []byte) (api.Msg, bool) {
	c := &cursor{p: p}
	m := c.message()
	if c.bad || len(c.p) > 0 {
		return api.Msg{}, false
	}
	return m, true
}

// readVertex is the vertex with whose bytes p begins by the document, and how many these are; false: there is none.
func readVertex(p []byte) (api.Vertex, int, bool) {
	c := &cursor{p: p}
	v := c.vertex()
	if c.bad {
		return api.Vertex{}, 0, false
	}
	return v, len(p) - len(c.p), true
}

// chance makes things by chance.
type chance struct{ *rand.Rand }

// number is a number of any length.
func (c chance) number() uint64 {
	edges := []uint64{0, 1, 255, 256, 65535, 65536, math.MaxInt64, math.MaxUint32, math.MaxUint64}
	if c.Intn(3) == 0 {
		return edges[c.Intn(len(edges))]
	}
	return c.Uint64() >> c.Intn(64)
}

func (c chance) small() uint32 { return uint32(c.number()) }

func (c chance) int() int { return int(c.number()) }

func (c chance) octet() byte { return byte(c.number()) }

func (c chance) value() api.Value {
	switch c.Intn(3) {
	case 0:
		return api.Value{}
	case 1:
		return api.Value{Kind: api.Int, N: int64(c.number())}
	}
	var s []byte
	for range c.Intn(9) {
		s = append(s, "abcz019.-"[c.Intn(9)])
	}
	return api.Value{Kind: api.Text, S: string(s)}
}

// some is things of a kind, at most most.
func some[E any](c chance, most int, one func() E) []E {
	var list []E
	for range min(c.Intn(most+1), c.Intn(most+1)) {
		list = append(list, one())
	}
	return list
}

func (c chance) vertex() api.Vertex {
	return api.Vertex{
		ID: c.small(), There: c.Intn(2) == 0,
		Props:  some(c, 4, func() api.Prop { return api.Prop{Key: c.octet(), Val: c.value()} }),
		Halves: some(c, 16, func() api.Half { return api.Half{Far: c.small(), Val: c.value()} }),
	}
}

func (c chance) message() api.Msg {
	return api.Msg{
		Kind: byte(1 + c.Intn(14)), From: c.octet(), To: c.octet(),
		Tx:  api.TxID{Node: c.octet(), Inc: c.small(), Seq: c.small()},
		Age: c.number(), Inc: c.small(), Client: c.octet(), Seq: c.small(),
		Req: api.Request{
			Kind: c.octet(),
			Ops: some(c, 6, func() api.Op {
				return api.Op{Kind: c.octet(), A: c.small(), B: c.small(), Key: c.octet(), Val: c.value()}
			}),
			V: c.small(), K: c.int(), To: c.int(),
		},
		Ans:   api.Answer{E: api.Errno(c.int()), At: c.int(), Vals: some(c, 6, c.value), List: some(c, 40, c.small)},
		Wants: some(c, 40, func() api.Want { return api.Want{V: c.small(), Mode: c.octet()} }),
		Verts: some(c, 12, c.vertex),
		Dirs:  some(c, 4, func() api.Entry { return api.Entry{V: c.small(), Owner: c.octet(), Epoch: c.small()} }),
		Nodes: some(c, 4, c.octet),
		Num:   c.number(), Credit: c.number(), Hops: c.int(),
	}
}

// spoilt is bytes like p, but for some change.
func (c chance) spoilt(p []byte) []byte {
	q := slices.Clone(p)
	at := c.Intn(len(q))
	switch c.Intn(6) {
	case 0:
		q[at] = byte(c.Int())
	case 1:
		q[at] += byte(1 - 2*c.Intn(2))
	case 2:
		q = slices.Insert(q, at, byte(c.Intn(3)))
	case 3:
		q = slices.Delete(q, at, at+1)
	case 4:
		q = slices.Concat(q[:at], q[c.Intn(len(q)):])
	case 5:
		q[at] ^= 1 << c.Intn(8)
	}
	return q
}
