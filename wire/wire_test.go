package wire_test

import (
	"bytes"
	"encoding/hex"
	"math"
	"math/rand"
	"reflect"
	"slices"
	"strings"
	"testing"

	"gusset/api"
	"gusset/wire"
)

// code is the bytes that a text tells to the base 16.
func code(s string) []byte {
	p, err := hex.DecodeString(strings.ReplaceAll(s, " ", ""))
	if err != nil {
		panic(err)
	}
	return p
}

func num(n int64) api.Value { return api.Value{Kind: api.Int, N: n} }

func txt(s string) api.Value { return api.Value{Kind: api.Text, S: s} }

// repeated is n times one thing.
func repeated[E any](n int, one E) []E { return slices.Repeat([]E{one}, n) }

// encodes holds Encode of m and Decode of its bytes against one another and against p.
func encodes(t *testing.T, m api.Msg, p []byte) {
	t.Helper()
	got, e := wire.Encode(m)
	if e != api.OK || !bytes.Equal(got, p) {
		t.Fatalf("Encode(%+v) =\n% x, %v, not\n% x", m, got, e, p)
	}
	back, e := wire.Decode(p)
	if e != api.OK || !reflect.DeepEqual(back, m) {
		t.Fatalf("Decode(% x) =\n%+v, %v, not\n%+v", p, back, e, m)
	}
}

// refuses holds Encode's error of m against e.
func refuses(t *testing.T, what string, m api.Msg, e api.Errno) {
	t.Helper()
	if got, ge := wire.Encode(m); got != nil || ge != e {
		t.Errorf("%s: Encode = % x, %v, not %v", what, got, ge, e)
	}
}

// formless holds Decode's error of p against ErrForm.
func formless(t *testing.T, what string, p []byte) {
	t.Helper()
	if m, e := wire.Decode(p); e != api.ErrForm || !reflect.DeepEqual(m, api.Msg{}) {
		t.Errorf("%s: Decode(% x) = %+v, %v", what, p, m, e)
	}
}

// formlessVertex holds GetVertex' error of p against ErrForm.
func formlessVertex(t *testing.T, what string, p []byte) {
	t.Helper()
	if v, n, e := wire.GetVertex(p); e != api.ErrForm || n != 0 || !reflect.DeepEqual(v, api.Vertex{}) {
		t.Errorf("%s: GetVertex(% x) = %+v, %d, %v", what, p, v, n, e)
	}
}

// full is a message each of whose fields has something of its own.
func full() api.Msg {
	return api.Msg{
		Kind: 9, From: 2, To: 3, Tx: api.TxID{Node: 4, Inc: 5, Seq: 0x600}, Age: 0x70000, Inc: 8, Client: 0xff, Seq: 10,
		Req:   api.Request{Kind: 11, Ops: []api.Op{{Kind: 12, A: 13, B: 14, Key: 15, Val: num(-6)}, {Val: txt("a.0-")}}, V: 16, K: 17, To: -2},
		Ans:   api.Answer{E: 18, At: -19, Vals: []api.Value{{}, num(0), num(5), txt("")}, List: []uint32{20, 0, math.MaxUint32}},
		Wants: []api.Want{{V: 21, Mode: 22}, {V: 23, Mode: 24}, {}},
		Verts: []api.Vertex{
			{ID: 25, There: true, Props: []api.Prop{{Key: 26, Val: num(27)}}, Halves: []api.Half{{Far: 28, Val: txt("z")}, {Far: 29}}},
			{ID: 0x1e00},
		},
		Dirs: []api.Entry{{V: 31, Owner: 32, Epoch: 33}}, Nodes: []byte{34, 35, 0, 36},
		Num: math.MaxUint64, Credit: 1 << 60, Hops: math.MinInt64,
	}
}

// fullCode is the bytes of full.
const fullCode = "09 02 03 04 01 05 02 06 00 03 07 00 00 01 08 ff 01 0a " +
	"0b 01 02 0c 01 0d 01 0e 0f 01 0e fa 00 00 00 00 02 61 2e 30 2d 00 00 01 10 11 11 0e fe " +
	"11 12 0e ed 01 04 00 01 10 01 11 05 02 00 00 01 03 01 14 00 04 ff ff ff ff " +
	"01 03 01 15 16 01 17 18 00 00 " +
	"01 02 01 19 01 01 01 1a 01 11 1b 01 02 01 1c 02 7a 00 00 01 1d 00 02 1e 00 00 00 00 " +
	"01 01 01 1f 20 01 21 01 04 22 23 00 24 " +
	"08 ff ff ff ff ff ff ff ff 08 10 00 00 00 00 00 00 00 07 80 00 00 00 00 00 00 00"

// P9.1: a message with nothing, and one with all that there is, byte by byte.
func TestBytes(t *testing.T) {
	encodes(t, api.Msg{Kind: 1}, code("01 00 00 00 00 00 00 00 00 00 00 00 00 10 10 10 10 00 00 00 00 00 00 00 00 10"))
	encodes(t, full(), code(fullCode))
}

// P9.1: empty lists and none are the same.
func TestEmptyLists(t *testing.T) {
	m := api.Msg{Kind: 1, Req: api.Request{Ops: []api.Op{}}, Ans: api.Answer{Vals: []api.Value{}, List: []uint32{}}}
	m.Wants, m.Verts, m.Dirs, m.Nodes = []api.Want{}, []api.Vertex{}, []api.Entry{}, []byte{}
	got, e := wire.Encode(m)
	bare, _ := wire.Encode(api.Msg{Kind: 1})
	if e != api.OK || !bytes.Equal(got, bare) {
		t.Errorf("Encode = % x, %v, not % x", got, e, bare)
	}
}

// P9.1: the kinds that messages have, and ErrArg and ErrForm of all others.
func TestKinds(t *testing.T) {
	for kind := range 256 {
		m := full()
		m.Kind = byte(kind)
		p := fieldsOf(m).bytes()
		if kind >= 1 && kind <= 14 {
			encodes(t, m, p)
			continue
		}
		refuses(t, "kind", m, api.ErrArg)
		formless(t, "kind", p)
	}
}

// P9.2: vertices, byte by byte; the first one is the document's example.
func TestVertices(t *testing.T) {
	for _, c := range []struct {
		v api.Vertex
		s string
	}{
		{api.Vertex{ID: 7, There: true, Props: []api.Prop{{Key: 0, Val: num(5)}}}, "01 07 01 01 01 00 01 11 05 00"},
		{api.Vertex{}, "00 00 00 00"},
		{api.Vertex{ID: 7}, "01 07 00 00 00"},
		{api.Vertex{ID: math.MaxUint32, There: true}, "04 ff ff ff ff 01 00 00"},
		{api.Vertex{ID: 40, Halves: []api.Half{{Far: 40}, {Far: 3, Val: txt("ab")}}}, "01 28 00 00 01 02 01 28 00 01 03 02 61 62 00 00"},
		{
			api.Vertex{ID: 1, There: true, Props: []api.Prop{{Key: 255, Val: num(math.MinInt64)}, {Key: 1}}, Halves: []api.Half{{Val: num(-1)}}},
			"01 01 01 01 02 ff 01 07 80 00 00 00 00 00 00 00 01 00 01 01 00 01 0f",
		},
	} {
		p, e := wire.PutVertex(c.v)
		if e != api.OK || !bytes.Equal(p, code(c.s)) {
			t.Errorf("PutVertex(%+v) = % x, %v, not %s", c.v, p, e, c.s)
		}
		for _, tail := range []string{"", "99", "00", "01 07 01 00 00"} {
			v, n, e := wire.GetVertex(code(c.s + tail))
			if e != api.OK || n != len(code(c.s)) || !reflect.DeepEqual(v, c.v) {
				t.Errorf("GetVertex(%s %s) = %+v, %d, %v", c.s, tail, v, n, e)
			}
		}
		for n := range code(c.s) {
			formlessVertex(t, "cut", code(c.s)[:n])
		}
	}
	formlessVertex(t, "the document's example", code("01 07 02 00 00"))
}

// longer is a list of a message, made to have so many things.
type longer struct {
	name string
	most int
	with func(m *api.Msg, n int)
}

// vertexLists is the lists of a vertex.
var vertexLists = []struct {
	name string
	most int
	with func(v *api.Vertex, n int)
}{
	{"Props", 4, func(v *api.Vertex, n int) { v.Props = repeated(n, api.Prop{Key: 200, Val: txt("12345678")}) }},
	{"Halves", 16, func(v *api.Vertex, n int) {
		v.Halves = repeated(n, api.Half{Far: math.MaxUint32, Val: txt("abcdefgh")})
	}},
}

// lists is the lists of a message.
func lists() []longer {
	all := []longer{
		{"Ops", 6, func(m *api.Msg, n int) {
			m.Req.Ops = repeated(n, api.Op{A: math.MaxUint32, B: math.MaxUint32, Val: num(math.MaxInt64)})
		}},
		{"Vals", 6, func(m *api.Msg, n int) { m.Ans.Vals = repeated(n, txt("--------")) }},
		{"List", 40, func(m *api.Msg, n int) { m.Ans.List = repeated(n, uint32(math.MaxUint32)) }},
		{"Wants", 40, func(m *api.Msg, n int) { m.Wants = repeated(n, api.Want{V: math.MaxUint32}) }},
		{"Verts", 12, func(m *api.Msg, n int) { m.Verts = repeated(n, api.Vertex{ID: 1}) }},
		{"Dirs", 4, func(m *api.Msg, n int) { m.Dirs = repeated(n, api.Entry{V: math.MaxUint32, Epoch: math.MaxUint32}) }},
		{"Nodes", 4, func(m *api.Msg, n int) { m.Nodes = repeated(n, byte(9)) }},
	}
	for _, l := range vertexLists {
		for at := range 3 {
			all = append(all, longer{l.name, l.most, func(m *api.Msg, n int) {
				m.Verts = make([]api.Vertex, 3)
				l.with(&m.Verts[at], n)
			}})
		}
	}
	return all
}

// P9.1: each list with as much as it may have; one more is ErrLong, and ErrForm in bytes; so is much more.
func TestLimits(t *testing.T) {
	for _, l := range lists() {
		m := api.Msg{Kind: 3}
		l.with(&m, l.most)
		encodes(t, m, fieldsOf(m).bytes())
		for _, n := range []int{l.most + 1, l.most + 2, 255, 256} {
			l.with(&m, n)
			refuses(t, l.name, m, api.ErrLong)
			formless(t, l.name, fieldsOf(m).bytes())
		}
		l.with(&m, 100000)
		refuses(t, l.name, m, api.ErrLong)
	}
}

// P9.2: the same of a vertex' lists.
func TestVertexLimits(t *testing.T) {
	for _, l := range vertexLists {
		v := api.Vertex{ID: 3}
		l.with(&v, l.most)
		p, e := wire.PutVertex(v)
		back, n, be := wire.GetVertex(p)
		if e != api.OK || be != api.OK || n != len(p) || !reflect.DeepEqual(back, v) {
			t.Errorf("%s: PutVertex = % x, %v; GetVertex = %+v, %d, %v", l.name, p, e, back, n, be)
		}
		for _, n := range []int{l.most + 1, 255, 256} {
			l.with(&v, n)
			if p, e := wire.PutVertex(v); p != nil || e != api.ErrLong {
				t.Errorf("%d %s: PutVertex = % x, %v", n, l.name, p, e)
			}
			formlessVertex(t, l.name, vertexFieldsOf(v).bytes())
		}
	}
}

// P9.1: a message that has as much as there may be of everything.
func TestGreatest(t *testing.T) {
	v := api.Vertex{ID: math.MaxUint32, There: true}
	for _, l := range vertexLists {
		l.with(&v, l.most)
	}
	m := full()
	for _, l := range lists() {
		l.with(&m, l.most)
	}
	m.Verts = repeated(12, v)
	encodes(t, m, fieldsOf(m).bytes())
}

// places is the places of a message in which a value stands.
var places = []struct {
	name string
	lay  func(m *api.Msg, v api.Value)
}{
	{"first Op", func(m *api.Msg, v api.Value) { m.Req.Ops[0].Val = v }},
	{"last Op", func(m *api.Msg, v api.Value) { m.Req.Ops[1].Val = v }},
	{"first of Vals", func(m *api.Msg, v api.Value) { m.Ans.Vals[0] = v }},
	{"last of Vals", func(m *api.Msg, v api.Value) { m.Ans.Vals[3] = v }},
	{"Prop", func(m *api.Msg, v api.Value) { m.Verts[0].Props[0].Val = v }},
	{"first Half", func(m *api.Msg, v api.Value) { m.Verts[0].Halves[0].Val = v }},
	{"last Half", func(m *api.Msg, v api.Value) { m.Verts[0].Halves[1].Val = v }},
}

// P9.1: values in form, wherever they stand; none of these is refused, nor changed.
func TestValues(t *testing.T) {
	for _, v := range []api.Value{
		{}, num(0), num(1), num(-1), num(256), num(-257), num(math.MaxInt64), num(math.MinInt64),
		txt(""), txt("a"), txt("z"), txt("0"), txt("9"), txt("."), txt("-"), txt("none"), txt("abcdefgh"),
	} {
		for _, at := range places {
			m := full()
			at.lay(&m, v)
			encodes(t, m, fieldsOf(m).bytes())
		}
	}
}

// badValues is values that are not in form.
var badValues = []api.Value{
	{Kind: 3}, {Kind: 255}, {N: 1}, {S: "a"}, {Kind: api.Int, S: "a"}, {Kind: api.Int, N: 5, S: "a"},
	{Kind: api.Text, N: 1}, {Kind: api.Text, N: -1, S: "a"}, txt("abcdefghi"), txt("A"), txt("a b"), txt("'"), txt("\x00"), txt("a\x00"),
	txt("/"), txt(":"), txt("`"), txt("{"), txt("\xff"), txt("é"), txt(strings.Repeat("a", 1<<20)),
}

// P9.1: ErrForm of a value that isn't in form, wherever it stands; and of its bytes, where there are such.
func TestFormlessValues(t *testing.T) {
	for _, v := range badValues {
		for _, at := range places {
			m := full()
			at.lay(&m, v)
			refuses(t, at.name, m, api.ErrForm)
			if v.Kind == api.Text && v.N == 0 && len(v.S) < 100 || v.Kind > api.Text {
				formless(t, at.name, fieldsOf(m).bytes())
			}
		}
	}
}

// P9.2: the same of a vertex.
func TestFormlessVertices(t *testing.T) {
	for _, bad := range badValues {
		for _, v := range []api.Vertex{
			{ID: 1, There: true, Props: []api.Prop{{Key: 1, Val: num(1)}, {Key: 2, Val: bad}}},
			{ID: 1, Halves: []api.Half{{Far: 2, Val: bad}, {Far: 3}}},
		} {
			if p, e := wire.PutVertex(v); p != nil || e != api.ErrForm {
				t.Errorf("PutVertex with a value of kind %d, %d, %d bytes = % x, %v", bad.Kind, bad.N, len(bad.S), p, e)
			}
			if bad.Kind == api.Text && bad.N == 0 && len(bad.S) < 100 || bad.Kind > api.Text {
				formlessVertex(t, "value", vertexFieldsOf(v).bytes())
			}
			v.Halves = make([]api.Half, 17)
			if p, e := wire.PutVertex(v); p != nil || e != api.ErrLong {
				t.Errorf("PutVertex with 17 halves = % x, %v", p, e)
			}
		}
	}
}

// P9.1: of several errors the one with the least number, wherever they stand.
func TestOrderOfErrors(t *testing.T) {
	for _, at := range places {
		for _, l := range lists() {
			m := full()
			l.with(&m, l.most+1)
			for len(m.Verts) == 0 || len(m.Verts[0].Props) == 0 || len(m.Verts[0].Halves) < 2 || len(m.Req.Ops) < 2 || len(m.Ans.Vals) < 4 {
				m.Verts = append(full().Verts, m.Verts...)
			}
			at.lay(&m, txt("A"))
			refuses(t, at.name+" and "+l.name, m, api.ErrLong)
			m.Kind = 15
			refuses(t, "kind, "+at.name+" and "+l.name, m, api.ErrArg)
		}
		m := full()
		at.lay(&m, txt("A"))
		m.Kind = 0
		refuses(t, "kind and "+at.name, m, api.ErrArg)
	}
}

// wrong is what a field can't be; right is what it may be, if there is room for it.
var wrong = map[int][]string{
	msgKind:   {"00", "0f", "ff"},
	flag:      {"02", "ff", "10"},
	small:     {"05 01 00 00 00 00", "08 ff ff ff ff ff ff ff ff", "09 01 00 00 00 00 00 00 00 00", "01 00", "02 00 05", "04 00 ff ff ff", "ff", "10"},
	large:     {"01 00", "02 00 05", "08 00 ff ff ff ff ff ff ff", "09 01 00 00 00 00 00 00 00 00", "ff", "10"},
	signed:    {"11 00", "12 00 05", "18 80 00 00 00 00 00 00 00", "18 ff ff ff ff ff ff ff ff", "07 7f ff ff ff ff ff ff ff", "0e ff", "0d ff 05", "19 01 00 00 00 00 00 00 00 00", "06 fe 00 00 00 00 00 00 00 00", "00", "ff"},
	count:     {"01 00", "02 01 00", "02 00 01", "08 ff ff ff ff ff ff ff ff", "04 ff ff ff ff", "05 01 00 00 00 00", "09 01 00 00 00 00 00 00 00 00", "10"},
	valueKind: {"03", "10", "ff"},
	text:      {"41 00 00", "00 ff 00 00", "61 00 ff 00 00", "61 00 01", "61 62 63 64 65 66 67 68 69 00 00", "20 00 00", "61 00 62 00 00", "ff 00 00"},
}

var right = map[int][]string{
	octet:   {"00", "01", "7f", "ff"},
	msgKind: {"01", "0e"},
	flag:    {"00", "01"},
	small:   {"00", "01 01", "02 01 00", "04 ff ff ff ff"},
	large:   {"00", "05 01 00 00 00 00", "08 80 00 00 00 00 00 00 00", "08 ff ff ff ff ff ff ff ff"},
	signed:  {"10", "0f", "0e fe", "18 7f ff ff ff ff ff ff ff", "07 80 00 00 00 00 00 00 00", "11 01"},
	text:    {"00 00", "7a 00 00", "2d 2e 30 39 61 7a 2d 2e 00 00"},
}

// P9.1: each field of a message with what it may be, and with what it can't be.
func TestFields(t *testing.T) {
	f := fieldsOf(full())
	if !bytes.Equal(f.bytes(), code(fullCode)) {
		t.Fatalf("the model writes % x", f.bytes())
	}
	for i, one := range f.list {
		for _, s := range wrong[one.what] {
			f.list[i].code = code(s)
			formless(t, "field", f.bytes())
		}
		for _, s := range right[one.what] {
			f.list[i].code = code(s)
			m, e := wire.Decode(f.bytes())
			if e != api.OK {
				t.Errorf("field %d: Decode(% x) = %v", i, f.bytes(), e)
				continue
			}
			encodes(t, m, f.bytes())
		}
		f.list[i] = one
	}
}

// P9.2: the same of a vertex.
func TestVertexFields(t *testing.T) {
	for _, v := range full().Verts {
		f := vertexFieldsOf(v)
		for i, one := range f.list {
			for _, s := range wrong[one.what] {
				f.list[i].code = code(s)
				formlessVertex(t, "field", f.bytes())
			}
			for _, s := range right[one.what] {
				f.list[i].code = code(s)
				v, n, e := wire.GetVertex(f.bytes())
				if e != api.OK || n != len(f.bytes()) {
					t.Errorf("field %d: GetVertex(% x) = %+v, %d, %v", i, f.bytes(), v, n, e)
				}
				if p, e := wire.PutVertex(v); e != api.OK || !bytes.Equal(p, f.bytes()) {
					t.Errorf("PutVertex(%+v) = % x, %v", v, p, e)
				}
			}
			f.list[i] = one
		}
	}
}

// P9.1: a message's bytes, cut anywhere, or with something behind them, are none's.
func TestCut(t *testing.T) {
	for _, m := range []api.Msg{{Kind: 14}, full()} {
		p := fieldsOf(m).bytes()
		for n := range p {
			formless(t, "cut", p[:n])
		}
		for _, tail := range []string{"00", "10", "ff", fullCode} {
			formless(t, "with a tail", slices.Concat(p, code(tail)))
		}
	}
	formless(t, "nothing", nil)
	formless(t, "nothing", []byte{})
}

// P9.1: ErrLong of more than 16,384 bytes, whatever they are; of as many ErrForm.
func TestLong(t *testing.T) {
	p := append(code(fullCode), make([]byte, 1<<17)...)
	formless(t, "16,384 bytes", p[:16384])
	for _, n := range []int{16385, 20000, len(p)} {
		if m, e := wire.Decode(p[:n]); e != api.ErrLong || !reflect.DeepEqual(m, api.Msg{}) {
			t.Errorf("Decode of %d bytes = %+v, %v", n, m, e)
		}
	}
	v, n, e := wire.GetVertex(append(code("01 07 00 00 00"), make([]byte, 1<<17)...))
	if e != api.OK || n != 5 || v.ID != 7 {
		t.Errorf("GetVertex of many bytes = %+v, %d, %v", v, n, e)
	}
}

// P9.1: messages by chance; and bytes like theirs, of which some are no message's.
func TestByChance(t *testing.T) {
	c := chance{rand.New(rand.NewSource(9))}
	good := 0
	for range 3000 {
		m := c.message()
		p := fieldsOf(m).bytes()
		encodes(t, m, p)
		for range 20 {
			p = c.spoilt(p)
			if len(p) == 0 {
				break
			}
			should, ok := readMessage(p)
			if !ok {
				formless(t, "spoilt", p)
				continue
			}
			good++
			encodes(t, should, p)
		}
	}
	if good < 1000 {
		t.Errorf("of the spoilt bytes just %d are a message's", good)
	}
}

// P9.2: the same of vertices.
func TestVerticesByChance(t *testing.T) {
	c := chance{rand.New(rand.NewSource(99))}
	good := 0
	for range 10000 {
		v := c.vertex()
		p, e := wire.PutVertex(v)
		if should := vertexFieldsOf(v).bytes(); e != api.OK || !bytes.Equal(p, should) {
			t.Fatalf("PutVertex(%+v) = % x, %v, not % x", v, p, e, should)
		}
		for q := p; len(q) > 0 && len(q) > len(p)-6; q = c.spoilt(q) {
			should, n, ok := readVertex(q)
			if !ok {
				formlessVertex(t, "spoilt", q)
				continue
			}
			good++
			got, k, e := wire.GetVertex(q)
			if e != api.OK || k != n || !reflect.DeepEqual(got, should) {
				t.Fatalf("GetVertex(% x) = %+v, %d, %v, not %+v, %d", q, got, k, e, should, n)
			}
			if back, e := wire.PutVertex(got); e != api.OK || !bytes.Equal(back, q[:n]) {
				t.Fatalf("PutVertex(%+v) = % x, %v, not % x", got, back, e, q[:n])
			}
		}
	}
	if good < 15000 {
		t.Errorf("just %d are a vertex' bytes", good)
	}
}

// P1: bytes by chance end, and don't panic.
func TestAnyBytes(t *testing.T) {
	r := rand.New(rand.NewSource(1))
	for range 20000 {
		p := make([]byte, r.Intn(200))
		for i := range p {
			p[i] = byte(r.Intn(1 << (1 + r.Intn(8))))
		}
		m, e := wire.Decode(p)
		if should, ok := readMessage(p); ok != (e == api.OK) || !reflect.DeepEqual(m, should) {
			t.Fatalf("Decode(% x) = %+v, %v", p, m, e)
		}
		v, n, e := wire.GetVertex(p)
		if should, k, ok := readVertex(p); ok != (e == api.OK) || n != k || !reflect.DeepEqual(v, should) {
			t.Fatalf("GetVertex(% x) = %+v, %d, %v", p, v, n, e)
		}
	}
}

// roomy is a copy of a list, with spare room in which something stands.
func roomy[E any](list []E, spare E) []E {
	return append(append([]E(nil), list...), spare, spare)[:len(list)]
}

// roomyFull is full, each of whose lists has spare room.
func roomyFull() api.Msg {
	m := full()
	m.Req.Ops = roomy(m.Req.Ops, api.Op{Kind: 99})
	m.Ans.Vals = roomy(m.Ans.Vals, num(99))
	m.Ans.List = roomy(m.Ans.List, 99)
	m.Wants = roomy(m.Wants, api.Want{V: 99})
	m.Verts[0].Props = roomy(m.Verts[0].Props, api.Prop{Key: 99})
	m.Verts[0].Halves = roomy(m.Verts[0].Halves, api.Half{Far: 99})
	m.Verts = roomy(m.Verts, api.Vertex{ID: 99})
	m.Dirs = roomy(m.Dirs, api.Entry{V: 99})
	m.Nodes = roomy(m.Nodes, 99)
	return m
}

// stretched is m with all lists as long as there is room for.
func stretched(m api.Msg) api.Msg {
	m.Req.Ops = m.Req.Ops[:cap(m.Req.Ops)]
	m.Ans.Vals = m.Ans.Vals[:cap(m.Ans.Vals)]
	m.Ans.List = m.Ans.List[:cap(m.Ans.List)]
	m.Wants = m.Wants[:cap(m.Wants)]
	m.Verts = slices.Clone(m.Verts[:cap(m.Verts)])
	m.Verts[0].Props = m.Verts[0].Props[:cap(m.Verts[0].Props)]
	m.Verts[0].Halves = m.Verts[0].Halves[:cap(m.Verts[0].Halves)]
	m.Dirs = m.Dirs[:cap(m.Dirs)]
	m.Nodes = m.Nodes[:cap(m.Nodes)]
	return m
}

// The rule of memory: what is handed in is not changed, its spare room neither; what is answered is new.
func TestMemory(t *testing.T) {
	m, same := roomyFull(), roomyFull()
	p, _ := wire.Encode(m)
	if !reflect.DeepEqual(stretched(m), stretched(same)) {
		t.Errorf("Encode has changed its argument: %+v", m)
	}
	clear(p[:cap(p)])
	if p, e := wire.Encode(m); e != api.OK || !bytes.Equal(p, code(fullCode)) {
		t.Errorf("Encode = % x, %v", p, e)
	}
	in := roomy(code(fullCode), 0x99)
	first, _ := wire.Decode(in)
	second, _ := wire.Decode(in)
	if !bytes.Equal(in[:cap(in)][:len(in)+2], append(code(fullCode), 0x99, 0x99)) {
		t.Errorf("Decode has changed its argument: % x", in[:cap(in)])
	}
	clear(in[:cap(in)])
	clearLists(first)
	if !reflect.DeepEqual(second, full()) {
		t.Errorf("Decode = %+v, not %+v", second, full())
	}
}

// clearLists writes over all lists of m, and over their spare room.
func clearLists(m api.Msg) {
	for _, v := range m.Verts {
		clear(v.Props[:cap(v.Props)])
		clear(v.Halves[:cap(v.Halves)])
	}
	clear(m.Req.Ops[:cap(m.Req.Ops)])
	clear(m.Ans.Vals[:cap(m.Ans.Vals)])
	clear(m.Ans.List[:cap(m.Ans.List)])
	clear(m.Wants[:cap(m.Wants)])
	clear(m.Verts[:cap(m.Verts)])
	clear(m.Dirs[:cap(m.Dirs)])
	clear(m.Nodes[:cap(m.Nodes)])
}

// The rule of memory, of vertices; and no two lists of one answer share any.
func TestVertexMemory(t *testing.T) {
	v := roomyFull().Verts[0]
	p, _ := wire.PutVertex(v)
	if should := roomyFull().Verts[0]; !reflect.DeepEqual(v, should) || v.Props[:2][1].Key != 99 || v.Halves[:3][2].Far != 99 {
		t.Errorf("PutVertex has changed its argument: %+v", v)
	}
	in := slices.Clone(p)
	got, _, _ := wire.GetVertex(in)
	if !bytes.Equal(in, p) {
		t.Errorf("GetVertex has changed its argument: % x", in)
	}
	clear(in)
	other, _, _ := wire.GetVertex(p)
	clear(other.Props[:cap(other.Props)])
	clear(other.Halves[:cap(other.Halves)])
	if !reflect.DeepEqual(got, full().Verts[0]) {
		t.Errorf("GetVertex = %+v", got)
	}
	m, _ := wire.Decode(fieldsOf(api.Msg{Kind: 1, Verts: repeated(3, full().Verts[0])}).bytes())
	clear(m.Verts[1].Props[:cap(m.Verts[1].Props)])
	clear(m.Verts[1].Halves[:cap(m.Verts[1].Halves)])
	for _, at := range []int{0, 2} {
		if !reflect.DeepEqual(m.Verts[at], full().Verts[0]) {
			t.Errorf("Verts %d = %+v", at, m.Verts[at])
		}
	}
}
