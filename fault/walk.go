package fault

import (
	"errors"
	"iter"
	"slices"

	"gusset/api"
)

// mostForeign is how many errors that foreign ones wrap are gone through in one walk: a foreign error may wrap itself.
const mostForeign = 1 << 20

// single and several are how errors tell what they wrap.
type single interface{ Unwrap() error }

type several interface{ Unwrap() []error }

// descend goes from e to its root, through the first of errors that are joined, and tells the links on its way.
// It answers nil where there is no root.
func descend(e error, tell func(*linked)) error {
	for range mostForeign {
		e = descendOwn(e, tell)
		below, wraps := unwrap(e)
		if !wraps {
			return e
		}
		e = first(below)
	}
	return nil
}

// descendOwn goes from e to the first error that is neither a link nor joined here. These end by themselves.
func descendOwn(e error, tell func(*linked)) error {
	for {
		switch x := e.(type) {
		case *linked:
			tell(x)
			e = x.about
		case *joined:
			e = x.list[0]
		default:
			return e
		}
	}
}

// roots goes through all roots that the errors of the list have, in no order that is promised. Of errors that were
// joined here it tells the codes alone.
func roots(list ...error) iter.Seq[error] {
	return func(yield func(error) bool) {
		left := mostForeign
		for open := slices.Clone(list); len(open) > 0; {
			e := descendLinks(open[len(open)-1])
			open = open[:len(open)-1]
			if j, ok := e.(*joined); ok {
				if !tellCodes(j.codes, yield) {
					return
				}
				continue
			}
			below, wraps := unwrap(e)
			if !wraps && !yield(e) {
				return
			}
			if left -= len(below); left >= 0 {
				open = append(open, below...)
			}
		}
	}
}

// descendLinks goes from e through the links about it.
func descendLinks(e error) error {
	for {
		l, ok := e.(*linked)
		if !ok {
			return e
		}
		e = l.about
	}
}

// tellCodes tells the codes as roots, and answers whether more are wanted.
func tellCodes(codes []api.Errno, yield func(error) bool) bool {
	for _, code := range codes {
		if !yield(code) {
			return false
		}
	}
	return true
}

// unwrap answers what a foreign error wraps, and whether it is one that wraps at all.
// What panics when it is asked wraps nothing that could be told.
func unwrap(e error) (below []error, wraps bool) {
	defer func() {
		if recover() != nil {
			below, wraps = nil, true
		}
	}()
	switch x := e.(type) {
	case single:
		return []error{x.Unwrap()}, true
	case several:
		return x.Unwrap(), true
	}
	return nil, false
}

// first is the first error of the list that isn't nil.
func first(list []error) error {
	for _, e := range list {
		if e != nil {
			return e
		}
	}
	return nil
}

// isCode tells whether a root is code. A foreign root may panic when it is asked: it isn't, then.
func isCode(root error, code api.Errno) (is bool) {
	defer func() {
		if recover() != nil {
			is = false
		}
	}()
	return errors.Is(root, code)
}

// codeOf is a root's number, if it has one. A foreign root may panic when it is asked: it has none, then.
func codeOf(root error) (code api.Errno, ok bool) {
	defer func() {
		if recover() != nil {
			code, ok = api.OK, false
		}
	}()
	if !errors.As(root, &code) {
		return api.OK, false
	}
	return code, true
}

// numberOf is a root's number, or what stands for none.
func numberOf(root error) api.Errno {
	if code, ok := codeOf(root); ok {
		return code
	}
	return api.ErrState
}
