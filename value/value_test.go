package value_test

import (
	"math"
	"regexp"
	"strconv"
	"strings"
	"testing"

	"gusset/api"
	"gusset/value"
)

func number(n int64) api.Value { return api.Value{Kind: api.Int, N: n} }

func text(s string) api.Value { return api.Value{Kind: api.Text, S: s} }

// rising is values in form, each greater than the one ahead of it.
var rising = []api.Value{
	{}, number(math.MinInt64), number(-10), number(-9), number(-1), number(0), number(1), number(9), number(10), number(math.MaxInt64),
	text(""), text("-"), text("--"), text("."), text("0"), text("00000000"), text("9"), text("a"), text("a-"), text("a.b"), text("a0"), text("aa"), text("ab"), text("abcdefgh"), text("b"), text("z"), text("zzzzzzzz"),
}

// formless is values that are not in form.
var formless = []api.Value{
	{Kind: api.None, N: 1}, {Kind: api.None, N: math.MinInt64}, {Kind: api.None, S: "a"}, {Kind: api.None, N: 1, S: "a"},
	{Kind: api.Int, S: "a"}, {Kind: api.Int, N: 1, S: "1"}, {Kind: api.Int, S: "\x00"},
	{Kind: api.Text, N: 1}, {Kind: api.Text, N: -1, S: "a"},
	text("abcdefghi"), text("A"), text("Z"), text("a b"), text("a_b"), text("'"), text("\x00"), text("\xff"), text("é"), text("`"), text("{"), text("/"), text(":"), text(","), text("abcdefg\n"),
	{Kind: 3}, {Kind: 255}, {Kind: 3, N: 1, S: "a"},
}

// P2.1: Check.
func TestCheck(t *testing.T) {
	for _, v := range rising {
		if e := value.Check(v); e != api.OK {
			t.Errorf("Check(%v) = %v", v, e)
		}
	}
	for _, v := range formless {
		if e := value.Check(v); e != api.ErrForm {
			t.Errorf("Check(%v) = %v", v, e)
		}
	}
}

// P2.1: of all bytes just these may stand in a Text.
func TestCheckBytes(t *testing.T) {
	for b := range 256 {
		want := api.ErrForm
		if strings.IndexByte("abcdefghijklmnopqrstuvwxyz0123456789.-", byte(b)) >= 0 {
			want = api.OK
		}
		for _, s := range []string{string([]byte{byte(b)}), string([]byte{'a', byte(b)}), string([]byte{byte(b), 'a'})} {
			if e := value.Check(text(s)); e != want {
				t.Errorf("Check(%q) = %v", s, e)
			}
		}
	}
}

// P2.1: Cmp.
func TestCmp(t *testing.T) {
	for i, a := range rising {
		for k, b := range rising {
			want := 0
			if i < k {
				want = -1
			} else if i > k {
				want = 1
			}
			if got, e := value.Cmp(a, b); got != want || e != api.OK {
				t.Errorf("Cmp(%v, %v) = %d, %v", a, b, got, e)
			}
		}
	}
	for _, a := range formless {
		for _, b := range append(rising[:len(rising):len(rising)], formless...) {
			if got, e := value.Cmp(a, b); got != 0 || e != api.ErrForm {
				t.Errorf("Cmp(%v, %v) = %d, %v", a, b, got, e)
			}
			if got, e := value.Cmp(b, a); got != 0 || e != api.ErrForm {
				t.Errorf("Cmp(%v, %v) = %d, %v", b, a, got, e)
			}
		}
	}
}

// P2.2: Write, and Parse of what it wrote.
func TestWrite(t *testing.T) {
	for _, c := range []struct {
		v api.Value
		s string
	}{
		{api.Value{}, "none"}, {number(0), "0"}, {number(-5), "-5"}, {number(10), "10"},
		{number(math.MaxInt64), "9223372036854775807"}, {number(math.MinInt64), "-9223372036854775808"},
		{text(""), "''"}, {text("a.b"), "'a.b'"}, {text("none"), "'none'"}, {text("-0"), "'-0'"}, {text("12345678"), "'12345678'"},
	} {
		if s, e := value.Write(c.v); s != c.s || e != api.OK {
			t.Errorf("Write(%v) = %q, %v", c.v, s, e)
		}
		if v, e := value.Parse(c.s); v != c.v || e != api.OK {
			t.Errorf("Parse(%q) = %v, %v", c.s, v, e)
		}
	}
	for _, v := range rising {
		s, e := value.Write(v)
		if got, f := value.Parse(s); got != v || e != api.OK || f != api.OK {
			t.Errorf("Parse(Write(%v)) = %v, %v, %v", v, got, e, f)
		}
	}
	for _, v := range formless {
		if s, e := value.Write(v); s != "" || e != api.ErrForm {
			t.Errorf("Write(%v) = %q, %v", v, s, e)
		}
	}
}

// P2.2: texts of no value.
func TestParseRefuses(t *testing.T) {
	for _, s := range []string{
		"", " ", "a", "A", "None", "none ", " none", "nonenone", "'none", "none'",
		"007", "00", "-0", "-00", "-01", "+1", "+0", "-", "+", "--1", "1-", "1.0", "1e3", "0x1", "1_000", " 1", "1 ", "1\n", "٣",
		"9223372036854775808", "-9223372036854775809", "99999999999999999999", "-99999999999999999999",
		"'", "'''", "''''", "'A'", "'a b'", "'a'b'", "'a", "a'", "''a", "'a' ", " 'a'", "\"a\"", "'é'", "'abcdefghi'", "'\x00'",
		strings.Repeat("1", 100000), "'" + strings.Repeat("a", 100000) + "'", strings.Repeat("'", 100000),
	} {
		if v, e := value.Parse(s); v != (api.Value{}) || e != api.ErrText {
			t.Errorf("Parse(%.20q) = %v, %v", s, v, e)
		}
	}
}

// P2.2: every short text is one of a value just if it has the form, and then that value's.
func TestParseAll(t *testing.T) {
	form := regexp.MustCompile(`^(none|0|-?[1-9][0-9]*|'[a-z0-9.-]{0,8}')$`)
	letters := "019-+.' _anoeZ\x00\xff"
	texts := []string{""}
	for from, n := 0, 0; n < 4; n++ {
		to := len(texts)
		for _, s := range texts[from:to] {
			for i := range len(letters) {
				texts = append(texts, s+letters[i:i+1])
			}
		}
		from = to
	}
	for _, s := range texts {
		v, e := value.Parse(s)
		if !form.MatchString(s) {
			if v != (api.Value{}) || e != api.ErrText {
				t.Fatalf("Parse(%q) = %v, %v", s, v, e)
			}
			continue
		}
		if w, f := value.Write(v); w != s || e != api.OK || f != api.OK {
			t.Fatalf("Write(Parse(%q)) = %q, %v, %v", s, w, e, f)
		}
	}
}

// P2.2: numbers about the ends of their range.
func TestParseNumbers(t *testing.T) {
	for i := range int64(1000) {
		for _, n := range []int64{i, -i, math.MaxInt64 - i, math.MinInt64 + i} {
			s := strconv.FormatInt(n, 10)
			if v, e := value.Parse(s); v != number(n) || e != api.OK {
				t.Fatalf("Parse(%q) = %v, %v", s, v, e)
			}
		}
	}
}

// P1, P2: whatever a value has, the calls end, agree with one another, and answer the same again.
func TestAnyValue(t *testing.T) {
	texts := []string{"", "a", "none", "'", "\x00", "\xff\xfe", "abcdefgh", "abcdefghi", strings.Repeat("a", 1<<16)}
	for kind := range 256 {
		for _, n := range []int64{math.MinInt64, -1, 0, 1, math.MaxInt64} {
			for _, s := range texts {
				v := api.Value{Kind: byte(kind), N: n, S: s}
				want := value.Check(v)
				got, e := value.Write(v)
				again, f := value.Write(v)
				if e != want || f != want || got != again || (e == api.OK) == (got == "") {
					t.Fatalf("Write(%d, %d, %.20q) = %q, %v", kind, n, s, got, e)
				}
				if order, e := value.Cmp(v, v); order != 0 || e != want {
					t.Fatalf("Cmp(%d, %d, %.20q) = %d, %v", kind, n, s, order, e)
				}
			}
		}
	}
}
