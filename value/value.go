// Package value is layer 2: what properties and edges have.
package value

import (
	"cmp"
	"strconv"
	"strings"

	"gusset/api"
)

// none and quote are how texts of values are told apart from numbers.
const (
	none  = "none"
	quote = "'"
)

// Check tells whether v is in form.
func Check(v api.Value) api.Errno {
	switch v.Kind {
	case api.None:
		if v.N != 0 {
			return api.ErrForm
		}
		fallthrough
	case api.Int:
		if v.S != "" {
			return api.ErrForm
		}
		return api.OK
	case api.Text:
		if v.N != 0 || !isText(v.S) {
			return api.ErrForm
		}
		return api.OK
	}
	return api.ErrForm
}

// isText tells whether a Text may have s.
func isText(s string) bool {
	if len(s) > api.MaxTextLen {
		return false
	}
	for i := range len(s) {
		if !isLetter(s[i]) {
			return false
		}
	}
	return true
}

// isLetter tells whether b may stand in a Text.
func isLetter(b byte) bool {
	return 'a' <= b && b <= 'z' || '0' <= b && b <= '9' || b == '.' || b == '-'
}

// Cmp is the order of two values. The kinds rise as their values do, and what a kind doesn't use is zero.
func Cmp(a, b api.Value) (int, api.Errno) {
	if Check(a) != api.OK || Check(b) != api.OK {
		return 0, api.ErrForm
	}
	return cmp.Or(cmp.Compare(a.Kind, b.Kind), cmp.Compare(a.N, b.N), cmp.Compare(a.S, b.S)), api.OK
}

// Write is v as a text.
func Write(v api.Value) (string, api.Errno) {
	if e := Check(v); e != api.OK {
		return "", e
	}
	switch v.Kind {
	case api.Int:
		return strconv.FormatInt(v.N, 10), api.OK
	case api.Text:
		return quote + v.S + quote, api.OK
	}
	return none, api.OK
}

// Parse is the value of which s is the text.
func Parse(s string) (api.Value, api.Errno) {
	v, ok := read(s)
	if !ok || Check(v) != api.OK {
		return api.Value{}, api.ErrText
	}
	v.S = strings.Clone(v.S)
	return v, api.OK
}

// read is a value that s may be the text of, whether it is in form or not. It shares its text with s.
func read(s string) (api.Value, bool) {
	if s == none {
		return api.Value{}, true
	}
	if len(s) >= 2*len(quote) && strings.HasPrefix(s, quote) && strings.HasSuffix(s, quote) {
		return api.Value{Kind: api.Text, S: s[len(quote) : len(s)-len(quote)]}, true
	}
	n, err := strconv.ParseInt(s, 10, 64)
	// A number has one text alone: no plus, no nought in front.
	if err != nil || strconv.FormatInt(n, 10) != s {
		return api.Value{}, false
	}
	return api.Value{Kind: api.Int, N: n}, true
}
