package rank_test

import (
	"bytes"
	"cmp"
	"encoding/hex"
	"math"
	"math/rand"
	"slices"
	"strings"
	"testing"

	"gusset/api"
	"gusset/rank"
)

// code is the bytes that a text tells to the base 16.
func code(s string) []byte {
	p, err := hex.DecodeString(strings.ReplaceAll(s, " ", ""))
	if err != nil {
		panic(err)
	}
	return p
}

var uints = []struct {
	n uint64
	s string
}{
	{0, "00"}, {1, "01 01"}, {5, "01 05"}, {127, "01 7f"}, {128, "01 80"}, {255, "01 ff"},
	{256, "02 01 00"}, {258, "02 01 02"}, {65535, "02 ff ff"}, {65536, "03 01 00 00"}, {1<<24 - 1, "03 ff ff ff"},
	{1 << 24, "04 01 00 00 00"}, {math.MaxUint32, "04 ff ff ff ff"}, {1 << 32, "05 01 00 00 00 00"},
	{1 << 40, "06 01 00 00 00 00 00"}, {1<<48 - 1, "06 ff ff ff ff ff ff"}, {1 << 48, "07 01 00 00 00 00 00 00"},
	{1<<56 - 1, "07 ff ff ff ff ff ff ff"}, {1 << 56, "08 01 00 00 00 00 00 00 00"}, {0x0123456789abcdef, "08 01 23 45 67 89 ab cd ef"},
	{math.MaxInt64, "08 7f ff ff ff ff ff ff ff"}, {1 << 63, "08 80 00 00 00 00 00 00 00"}, {math.MaxUint64, "08 ff ff ff ff ff ff ff ff"},
}

var ints = []struct {
	n int64
	s string
}{
	{math.MinInt64, "07 80 00 00 00 00 00 00 00"}, {math.MinInt64 + 1, "07 80 00 00 00 00 00 00 01"},
	{-1<<56 - 1, "07 fe ff ff ff ff ff ff ff"}, {-1 << 56, "08 00 00 00 00 00 00 00"},
	{-65537, "0c fe ff ff"}, {-65536, "0d 00 00"}, {-258, "0d fe fe"}, {-257, "0d fe ff"}, {-256, "0e 00"}, {-255, "0e 01"},
	{-6, "0e fa"}, {-2, "0e fe"}, {-1, "0f"}, {0, "10"}, {1, "11 01"}, {5, "11 05"}, {255, "11 ff"}, {256, "12 01 00"}, {258, "12 01 02"},
	{65535, "12 ff ff"}, {65536, "13 01 00 00"}, {1 << 32, "15 01 00 00 00 00"}, {math.MaxInt64, "18 7f ff ff ff ff ff ff ff"},
}

var texts = []struct{ p, s string }{
	{"", "00 00"}, {"00", "00 ff 00 00"}, {"00 00", "00 ff 00 ff 00 00"}, {"00 01", "00 ff 01 00 00"}, {"00 ff", "00 ff ff 00 00"},
	{"01", "01 00 00"}, {"61", "61 00 00"}, {"61 00", "61 00 ff 00 00"}, {"61 00 62", "61 00 ff 62 00 00"}, {"61 62 63", "61 62 63 00 00"},
	{"ff", "ff 00 00"}, {"ff 00", "ff 00 ff 00 00"}, {"ff ff", "ff ff 00 00"},
}

// tails is what may stand behind a code.
var tails = []string{"", "00", "ff", "00 00", "99", "01 02 03 04 05 06 07 08 09"}

// P4.1: Uint, and ReadUint of its codes, whatever stands behind them.
func TestUint(t *testing.T) {
	for _, c := range uints {
		if got := rank.Uint(c.n); !bytes.Equal(got, code(c.s)) {
			t.Errorf("Uint(%d) = % x", c.n, got)
		}
		for _, tail := range tails {
			n, k, e := rank.ReadUint(code(c.s + tail))
			if n != c.n || k != len(code(c.s)) || e != api.OK {
				t.Errorf("ReadUint(%s %s) = %d, %d, %v", c.s, tail, n, k, e)
			}
		}
	}
}

// P4.1: Int, and ReadInt of its codes, whatever stands behind them.
func TestInt(t *testing.T) {
	for _, c := range ints {
		if got := rank.Int(c.n); !bytes.Equal(got, code(c.s)) {
			t.Errorf("Int(%d) = % x", c.n, got)
		}
		for _, tail := range tails {
			n, k, e := rank.ReadInt(code(c.s + tail))
			if n != c.n || k != len(code(c.s)) || e != api.OK {
				t.Errorf("ReadInt(%s %s) = %d, %d, %v", c.s, tail, n, k, e)
			}
		}
	}
}

// P4.1: Text, and ReadText of its codes, with room for all of it, or for less.
func TestText(t *testing.T) {
	for _, c := range texts {
		p := code(c.p)
		if got := rank.Text(p); !bytes.Equal(got, code(c.s)) {
			t.Errorf("Text(%s) = % x", c.p, got)
		}
		for _, tail := range tails {
			for most := range len(p) {
				if got, k, e := rank.ReadText(code(c.s+tail), most); got != nil || k != 0 || e != api.ErrForm {
					t.Errorf("ReadText(%s %s, %d) = % x, %d, %v", c.s, tail, most, got, k, e)
				}
			}
			for _, most := range []int{len(p), len(p) + 1, api.MaxText} {
				if got, k, e := rank.ReadText(code(c.s+tail), most); !bytes.Equal(got, p) || k != len(code(c.s)) || e != api.OK {
					t.Errorf("ReadText(%s %s, %d) = % x, %d, %v", c.s, tail, most, got, k, e)
				}
			}
		}
	}
}

// P4.1: what begins with no number's code: too short, more bytes than there must be, no such first byte, too great a number.
func TestReadFormless(t *testing.T) {
	for _, s := range []string{
		"", "01", "01 00", "02 01", "02 00 05", "02 00 00", "03 00 ff ff", "04 01 02 03", "08 01 02 03 04 05 06 07", "08 00 ff ff ff ff ff ff ff",
		"09 01 02 03 04 05 06 07 08 09", "09 00 00 00 00 00 00 00 00 01", "10", "7f", "80", "ff", "ff 01 02 03 04 05 06 07 08 09",
	} {
		if n, k, e := rank.ReadUint(code(s)); n != 0 || k != 0 || e != api.ErrForm {
			t.Errorf("ReadUint(%s) = %d, %d, %v", s, n, k, e)
		}
	}
	for _, s := range []string{
		"", "00", "06 fe ff ff ff ff ff ff ff ff", "07", "07 7f ff ff ff ff ff ff ff", "07 00 00 00 00 00 00 00 00", "07 ff 00 00 00 00 00 00 00", "07 80 00 00 00 00 00 00",
		"08 ff 00 00 00 00 00 00", "0d fe", "0d ff fe", "0e", "0e ff", "11", "11 00", "12 01", "12 00 05", "18 7f ff ff ff ff ff ff",
		"18 80 00 00 00 00 00 00 00", "18 ff ff ff ff ff ff ff ff", "18 00 ff ff ff ff ff ff ff", "19 01 02 03 04 05 06 07 08 09", "80 01", "ff 01 02 03 04 05 06 07 08",
	} {
		if n, k, e := rank.ReadInt(code(s)); n != 0 || k != 0 || e != api.ErrForm {
			t.Errorf("ReadInt(%s) = %d, %d, %v", s, n, k, e)
		}
	}
	for _, s := range []string{"", "00", "61", "61 62", "61 00", "00 ff", "00 ff 00", "00 01 00 00", "61 00 61 00 00", "00 fe 00 00", "ff 00 80 00 00"} {
		if p, k, e := rank.ReadText(code(s), 9); p != nil || k != 0 || e != api.ErrForm {
			t.Errorf("ReadText(%s) = % x, %d, %v", s, p, k, e)
		}
	}
}

// P4.1: of all short bytes just those are read that begin with the code of what is read.
func TestReadShort(t *testing.T) {
	var all [][]byte
	for a := range 256 {
		all = append(all, []byte{byte(a)})
		for b := range 256 {
			all = append(all, []byte{byte(a), byte(b)})
			for _, c := range []byte{0, 1, 0x7f, 0x80, 0xfe, 0xff} {
				all = append(all, []byte{byte(a), byte(b), c}, []byte{byte(a), byte(b), c, 0}, []byte{byte(a), byte(b), 0, c, 0})
			}
		}
	}
	count := [3]map[string]int{{}, {}, {}}
	for _, p := range all {
		n, k, e := rank.ReadUint(p)
		holdRead(t, p, rank.Uint(n), k, e, count[0])
		i, k, e := rank.ReadInt(p)
		holdRead(t, p, rank.Int(i), k, e, count[1])
		s, k, e := rank.ReadText(p, 9)
		holdRead(t, p, rank.Text(s), k, e, count[2])
	}
	// Of one byte and of two bytes there are, of a Uint, 0 and 1 to 255; of an Int, 0 and 1 to 255, -1 and -2 to -256; of a Text, that of no bytes.
	for i, most := range []int{256, 512, 1} {
		short := 0
		for s := range count[i] {
			if len(s) <= 2 {
				short++
			}
		}
		if short != most {
			t.Errorf("codes of kind %d, of two bytes at most: %d", i, short)
		}
	}
}

// holdRead holds what was read of p against the code of what was read.
func holdRead(t *testing.T, p, code []byte, k int, e api.Errno, count map[string]int) {
	t.Helper()
	if e != api.OK {
		if e != api.ErrForm || k != 0 {
			t.Fatalf("% x: %d, %v", p, k, e)
		}
		return
	}
	if k != len(code) || !bytes.HasPrefix(p, code) {
		t.Fatalf("% x was read as % x, of %d", p, code, k)
	}
	count[string(code)]++
}

// P4.1: ReadText: most outside its range goes ahead of all else; MaxText is inside.
func TestReadTextMost(t *testing.T) {
	for _, most := range []int{-1, math.MinInt, api.MaxText + 1, math.MaxInt} {
		for _, s := range []string{"00 00", "61 00 00", "", "00 01"} {
			if p, k, e := rank.ReadText(code(s), most); p != nil || k != 0 || e != api.ErrArg {
				t.Errorf("ReadText(%s, %d) = % x, %d, %v", s, most, p, k, e)
			}
		}
	}
	for _, b := range []byte{0, 1, 0xff} {
		p := bytes.Repeat([]byte{b}, api.MaxText)
		c := rank.Text(p)
		if got, k, e := rank.ReadText(c, api.MaxText); !bytes.Equal(got, p) || k != len(c) || e != api.OK {
			t.Errorf("ReadText of MaxText bytes %x: %d bytes, %d, %v", b, len(got), k, e)
		}
		if got, k, e := rank.ReadText(c, api.MaxText-1); got != nil || k != 0 || e != api.ErrForm {
			t.Errorf("ReadText of MaxText bytes %x, one too many: %d bytes, %d, %v", b, len(got), k, e)
		}
		if got, k, e := rank.ReadText(rank.Text(append(p, b)), api.MaxText); got != nil || k != 0 || e != api.ErrForm {
			t.Errorf("ReadText of more than MaxText bytes %x: %d bytes, %d, %v", b, len(got), k, e)
		}
	}
}

// numbers is numbers of all lengths, and those beside the bounds at which the lengths change.
func numbers(r *rand.Rand) []uint64 {
	list := []uint64{0, math.MaxUint64}
	for i := range 64 {
		n := uint64(1) << i
		list = append(list, n-1, n, n+1, n|r.Uint64()&(n-1), -n, -n-1)
	}
	slices.Sort(list)
	return slices.Compact(list)
}

// P4.1: what is read of a number's code is the number, whatever its length.
func TestNumbersReadBack(t *testing.T) {
	for _, n := range numbers(rand.New(rand.NewSource(1))) {
		c := rank.Uint(n)
		if got, k, e := rank.ReadUint(append(c, 7)); got != n || k != len(c) || e != api.OK {
			t.Errorf("ReadUint(Uint(%d)) = %d, %d, %v", n, got, k, e)
		}
		c = rank.Int(int64(n))
		if got, k, e := rank.ReadInt(append(c, 7)); got != int64(n) || k != len(c) || e != api.OK {
			t.Errorf("ReadInt(Int(%d)) = %d, %d, %v", int64(n), got, k, e)
		}
	}
}

// P4.1: each number's code cut short is none's.
func TestCutShort(t *testing.T) {
	for _, n := range numbers(rand.New(rand.NewSource(2))) {
		for k := range len(rank.Uint(n)) {
			if got, at, e := rank.ReadUint(rank.Uint(n)[:k]); got != 0 || at != 0 || e != api.ErrForm {
				t.Errorf("ReadUint of %d bytes of Uint(%d) = %d, %d, %v", k, n, got, at, e)
			}
		}
		for k := range len(rank.Int(int64(n))) {
			if got, at, e := rank.ReadInt(rank.Int(int64(n))[:k]); got != 0 || at != 0 || e != api.ErrForm {
				t.Errorf("ReadInt of %d bytes of Int(%d) = %d, %d, %v", k, int64(n), got, at, e)
			}
		}
	}
}

// holdRising holds that codes rise, and that none is the beginning of another one.
func holdRising(t *testing.T, codes [][]byte) {
	t.Helper()
	for i, c := range codes {
		for k, d := range codes[:i] {
			if bytes.Compare(d, c) >= 0 || bytes.HasPrefix(c, d) {
				t.Fatalf("code %d, % x, and code %d, % x", k, d, i, c)
			}
		}
	}
}

// P4.2: the codes of numbers and of texts stand in the order of what they tell, and none begins another one.
func TestOrder(t *testing.T) {
	list := numbers(rand.New(rand.NewSource(3)))
	var codes [][]byte
	for _, n := range list {
		codes = append(codes, rank.Uint(n))
	}
	holdRising(t, codes)
	codes = nil
	slices.SortFunc(list, func(a, b uint64) int { return cmp.Compare(int64(a), int64(b)) })
	for _, n := range list {
		codes = append(codes, rank.Int(int64(n)))
	}
	holdRising(t, codes)
	codes = nil
	for _, p := range allTexts() {
		codes = append(codes, rank.Text([]byte(p)))
	}
	holdRising(t, codes)
}

// allTexts is all texts of at most four of some bytes, rising.
func allTexts() []string {
	list := []string{""}
	for at := 0; at < len(list); at++ {
		if len(list[at]) < 4 {
			for _, b := range []string{"\x00", "\x01", "a", "\xfe", "\xff"} {
				list = append(list, list[at]+b)
			}
		}
	}
	slices.Sort(list)
	return list
}

// cell is one thing of a row: a Uint, an Int or a Text.
type cell struct {
	u uint64
	i int64
	s string
}

// rowCode is the codes of a row, one behind the other; kinds tells what stands at its places.
func rowCode(row []cell, kinds string) []byte {
	var c []byte
	for at, kind := range kinds {
		switch kind {
		case 'u':
			c = append(c, rank.Uint(row[at].u)...)
		case 'i':
			c = append(c, rank.Int(row[at].i)...)
		case 's':
			c = append(c, rank.Text([]byte(row[at].s))...)
		}
	}
	return c
}

// rowOrder is the order of two rows: that of the first place at which they are unlike.
func rowOrder(a, b []cell) int {
	for at := range a {
		if a[at] != b[at] {
			return cmp.Or(cmp.Compare(a[at].u, b[at].u), cmp.Compare(a[at].i, b[at].i), cmp.Compare(a[at].s, b[at].s))
		}
	}
	return 0
}

// P4.2: rows of codes stand in the order of the rows, and none begins another one.
func TestRows(t *testing.T) {
	r := rand.New(rand.NewSource(4))
	us := []uint64{0, 1, 255, 256, math.MaxUint64}
	is := []int64{math.MinInt64, -257, -256, -2, -1, 0, 1, 255, 256, math.MaxInt64}
	ss := []string{"", "\x00", "\x00\x00", "\x00\xff", "\x01", "a", "a\x00", "a\x00\x00", "a\x00b", "a\x01", "aa", "\xff", "\xff\x00"}
	fill := func(kinds string) []cell {
		row := make([]cell, len(kinds))
		for at, kind := range kinds {
			switch kind {
			case 'u':
				row[at].u = us[r.Intn(len(us))]
			case 'i':
				row[at].i = is[r.Intn(len(is))]
			case 's':
				row[at].s = ss[r.Intn(len(ss))]
			}
		}
		return row
	}
	for _, kinds := range []string{"uu", "ii", "ss", "su", "si", "us", "is", "usi", "sis", "sss", "iuiu"} {
		for range 20000 {
			a, b := fill(kinds), fill(kinds)
			if r.Intn(2) == 0 {
				copy(b, a[:r.Intn(len(a)+1)])
			}
			c, d := rowCode(a, kinds), rowCode(b, kinds)
			if bytes.Compare(c, d) != rowOrder(a, b) || rowOrder(a, b) != 0 && bytes.HasPrefix(c, d) {
				t.Fatalf("%s: %v and %v: % x and % x", kinds, a, b, c, d)
			}
		}
	}
}

// The memory of arguments is neither changed nor shared, and answers share none.
func TestMemory(t *testing.T) {
	p := []byte("a\x00b......")[:3]
	c := rank.Text(p)
	d := rank.Text(p)
	p[0] = 'z'
	c[1] = 'y'
	if string(p[:9]) != "z\x00b......" || string(d) != "a\x00\xffb\x00\x00" {
		t.Fatalf("%q, %q", p[:9], d)
	}
	got, _, _ := rank.ReadText(d, 9)
	again, _, _ := rank.ReadText(d, 9)
	got[0] = 'x'
	if string(d) != "a\x00\xffb\x00\x00" || string(again) != "a\x00b" {
		t.Fatalf("%q, %q", d, again)
	}
	row := []byte{0x0d, 0xfe, 0xfe, 0x02, 1, 2}
	was := slices.Clone(row)
	rank.ReadInt(row)
	rank.ReadUint(row[3:])
	rank.ReadText(row, 3)
	if !bytes.Equal(row, was) {
		t.Fatalf("% x", row)
	}
	u, v := rank.Uint(258), rank.Uint(258)
	u[1] = 9
	_ = append(u[:1], 8, 8, 8)
	if !bytes.Equal(v, []byte{2, 1, 2}) {
		t.Fatalf("% x", v)
	}
}

// P1: every call ends and none panics, at arbitrary bytes too, and reads none beyond the length of what it is given.
func TestArbitrary(t *testing.T) {
	r := rand.New(rand.NewSource(5))
	for range 200000 {
		room := make([]byte, r.Intn(12))
		r.Read(room)
		if len(room) > 0 && r.Intn(2) == 0 {
			room[0] = byte(r.Intn(0x1a))
		}
		p := room[:r.Intn(len(room)+1)]
		if n, k, e := rank.ReadUint(p); e == api.OK && !bytes.Equal(p[:k], rank.Uint(n)) || k > len(p) {
			t.Fatalf("% x: %d, %d, %v", p, n, k, e)
		}
		if n, k, e := rank.ReadInt(p); e == api.OK && !bytes.Equal(p[:k], rank.Int(n)) || k > len(p) {
			t.Fatalf("% x: %d, %d, %v", p, n, k, e)
		}
		if s, k, e := rank.ReadText(p, r.Intn(6)); e == api.OK && !bytes.Equal(p[:k], rank.Text(s)) || k > len(p) {
			t.Fatalf("% x: % x, %d, %v", p, s, k, e)
		}
	}
	if len(rank.Text(nil)) != 2 {
		t.Fatal("Text(nil)")
	}
}
