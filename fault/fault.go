// Package fault is layer 1: errors with where they came from.
package fault

import (
	"slices"
	"strconv"
	"strings"

	"gusset/api"
)

// Link is a place in a chain.
type Link struct {
	Op int
	V  uint32
}

// linked is a link about an error.
type linked struct {
	Link
	about error
}

func (l *linked) Error() string { return Text(l) }

func (l *linked) Unwrap() error { return l.about }

// joined is several errors, none of them nil. The codes of their roots are kept, rising: where errors are joined with
// themselves again and again, there are too many ways down to the roots to go all of them whenever one is asked for.
type joined struct {
	list  []error
	codes []api.Errno
}

func (j *joined) Error() string { return Text(j) }

func (j *joined) Unwrap() []error { return slices.Clone(j.list) }

// New is the link about the root code.
func New(code api.Errno, op int, v uint32) error {
	if code == api.OK {
		return nil
	}
	return Wrap(code, op, v)
}

// Wrap is the link about e.
func Wrap(e error, op int, v uint32) error {
	if e == nil {
		return nil
	}
	return &linked{Link{op, v}, e}
}

// Join is the errors of the list that aren't nil, joined, in order.
func Join(list []error) error {
	parts := slices.DeleteFunc(slices.Clone(list), func(e error) bool { return e == nil })
	if len(parts) == 0 {
		return nil
	}
	return join(parts...)
}

// join joins errors none of which is nil.
func join(parts ...error) *joined {
	var codes []api.Errno
	for root := range roots(parts...) {
		if code, ok := codeOf(root); ok {
			codes = append(codes, code)
		}
	}
	slices.Sort(codes)
	return &joined{parts, slices.Compact(codes)}
}

// Is tells whether code is a root of e; of OK, whether e is nil.
func Is(e error, code api.Errno) bool {
	if e == nil || code == api.OK {
		return e == nil && code == api.OK
	}
	for root := range roots(e) {
		if isCode(root, code) {
			return true
		}
	}
	return false
}

// Code is the root, of joined errors that of the first one.
func Code(e error) api.Errno {
	if e == nil {
		return api.OK
	}
	return numberOf(descend(e, func(*linked) {}))
}

// Links is the links of e, the outermost first.
func Links(e error) []Link {
	var list []Link
	descend(e, func(l *linked) { list = append(list, l.Link) })
	return list
}

// Text is the links and the root as a text.
func Text(e error) string {
	if e == nil {
		return ""
	}
	var b strings.Builder
	root := descend(e, func(l *linked) {
		b.WriteString("op " + strconv.Itoa(l.Op) + " vertex " + strconv.FormatUint(uint64(l.V), 10) + ": ")
	})
	b.WriteString(numberOf(root).Error())
	return b.String()
}
