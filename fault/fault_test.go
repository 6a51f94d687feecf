package fault_test

import (
	"errors"
	"fmt"
	"math"
	"slices"
	"strings"
	"testing"

	"gusset/api"
	"gusset/fault"
)

var allCodes = []api.Errno{
	api.ErrArg, api.ErrLong, api.ErrForm, api.ErrRange, api.ErrText, api.ErrNone, api.ErrExists, api.ErrEdges,
	api.ErrState, api.ErrFull, api.ErrDown, api.ErrTerm, api.ErrAborted, api.ErrBusy, api.ErrStale,
	-1, 16, 99, math.MaxInt, math.MinInt,
}

// expect holds all that the calls tell of e against what they should.
func expect(t *testing.T, e error, code api.Errno, roots []api.Errno, links []fault.Link, text string) {
	t.Helper()
	if got := fault.Code(e); got != code {
		t.Errorf("Code(%q) = %d, not %d", text, got, code)
	}
	if got := fault.Links(e); !slices.Equal(got, links) {
		t.Errorf("Links(%q) = %v, not %v", text, got, links)
	}
	if got := fault.Text(e); got != text {
		t.Errorf("Text = %q, not %q", got, text)
	}
	if got := fault.Is(e, api.OK); got != (e == nil) {
		t.Errorf("Is(%q, OK) = %v", text, got)
	}
	for _, c := range allCodes {
		if got := fault.Is(e, c); got != slices.Contains(roots, c) {
			t.Errorf("Is(%q, %d) = %v", text, c, got)
		}
	}
}

// expectEnd holds what the calls tell of an error without a number against what they should.
func expectEnd(t *testing.T, e error, links []fault.Link, text string) {
	t.Helper()
	if fault.Code(e) != api.ErrState || !slices.Equal(fault.Links(e), links) || fault.Text(e) != text {
		t.Errorf("%d, %v, %q, not %q", fault.Code(e), fault.Links(e), fault.Text(e), text)
	}
	if fault.Is(e, api.ErrState) || fault.Is(e, api.OK) {
		t.Errorf("Is(%q, ..) of an error without a number", text)
	}
}

// P1.1: New.
func TestNew(t *testing.T) {
	for _, c := range allCodes {
		e := fault.New(c, 3, 8)
		if e == nil || !errors.Is(e, c) || errors.Is(e, c^64) {
			t.Fatalf("errors.Is doesn't see %d in %v", c, e)
		}
		var got api.Errno
		if !errors.As(e, &got) || got != c {
			t.Fatalf("errors.As sees %d, not %d", got, c)
		}
		expect(t, e, c, []api.Errno{c}, []fault.Link{{Op: 3, V: 8}}, "op 3 vertex 8: "+c.Error())
	}
	if e := fault.New(api.OK, 1, 2); e != nil {
		t.Fatalf("New(OK) = %v", e)
	}
}

// P1.1: Wrap.
func TestWrap(t *testing.T) {
	if e := fault.Wrap(nil, 1, 2); e != nil {
		t.Fatalf("Wrap(nil) = %v", e)
	}
	e := fault.Wrap(fault.New(api.ErrNone, 2, 7), 0, 9)
	var got api.Errno
	if !errors.Is(e, api.ErrNone) || errors.Is(e, api.ErrFull) || !errors.As(e, &got) || got != api.ErrNone {
		t.Fatal(e)
	}
	expect(t, e, api.ErrNone, []api.Errno{api.ErrNone}, []fault.Link{{0, 9}, {2, 7}}, "op 0 vertex 9: op 2 vertex 7: error 6")
	expect(t, fault.Wrap(api.ErrBusy, -4, 0), api.ErrBusy, []api.Errno{api.ErrBusy}, []fault.Link{{-4, 0}}, "op -4 vertex 0: error 14")
	expect(t, fault.Wrap(api.OK, 1, 1), api.OK, nil, []fault.Link{{1, 1}}, "op 1 vertex 1: error 0")
	inner := fault.New(api.ErrArg, 1, 1)
	if errors.Unwrap(fault.Wrap(inner, 1, 1)) != inner || !errors.Is(fault.Wrap(inner, 1, 1), inner) {
		t.Fatal("what is wrapped isn't to be seen")
	}
}

// P1.1: Join.
func TestJoin(t *testing.T) {
	for _, list := range [][]error{nil, {}, {nil}, {nil, nil}} {
		if e := fault.Join(list); e != nil {
			t.Fatalf("Join(%v) = %v", list, e)
		}
	}
	full, none := fault.New(api.ErrFull, 1, 1), fault.New(api.ErrNone, 0, 2)
	both := []api.Errno{api.ErrFull, api.ErrNone}
	e := fault.Join([]error{nil, full, nil, none, nil})
	expect(t, e, api.ErrFull, both, []fault.Link{{1, 1}}, "op 1 vertex 1: error 10")
	expect(t, fault.Join([]error{none, full}), api.ErrNone, both, []fault.Link{{0, 2}}, "op 0 vertex 2: error 6")
	expect(t, fault.Join([]error{nil, none}), api.ErrNone, both[1:], []fault.Link{{0, 2}}, "op 0 vertex 2: error 6")
	for _, c := range both {
		if !errors.Is(e, c) {
			t.Fatalf("errors.Is doesn't see %d", c)
		}
	}
	if !errors.Is(e, none) || !errors.Is(e, full) || errors.Is(e, api.ErrArg) {
		t.Fatal("errors.Is doesn't see what was joined")
	}
	var got api.Errno
	if !errors.As(e, &got) || got != api.ErrFull {
		t.Fatalf("errors.As sees %d", got)
	}
	if !errors.As(fault.Join([]error{errors.New("x"), none}), &got) || got != api.ErrNone {
		t.Fatalf("errors.As sees %d, behind one that has none", got)
	}
}

// P1.2, P1.3: joined errors that are wrapped and joined again.
func TestNested(t *testing.T) {
	pair := fault.Join([]error{fault.New(api.ErrFull, 1, 1), fault.New(api.ErrNone, 0, 2)})
	roots := []api.Errno{api.ErrFull, api.ErrNone}
	e := fault.Wrap(pair, 5, 6)
	expect(t, e, api.ErrFull, roots, []fault.Link{{5, 6}, {1, 1}}, "op 5 vertex 6: op 1 vertex 1: error 10")
	late := fault.Join([]error{fault.New(api.ErrStale, 7, 7), e})
	expect(t, late, api.ErrStale, append(roots, api.ErrStale), []fault.Link{{7, 7}}, "op 7 vertex 7: error 15")
	early := fault.Join([]error{fault.Wrap(e, 8, 8), fault.New(api.ErrStale, 7, 7)})
	expect(t, early, api.ErrFull, append(roots, api.ErrStale), []fault.Link{{8, 8}, {5, 6}, {1, 1}}, "op 8 vertex 8: op 5 vertex 6: op 1 vertex 1: error 10")
	for _, c := range []api.Errno{api.ErrFull, api.ErrNone, api.ErrStale} {
		if !errors.Is(early, c) || !errors.Is(late, c) {
			t.Fatalf("errors.Is doesn't see %d", c)
		}
	}
}

// P1.2, P1.3: of nil.
func TestNil(t *testing.T) {
	expect(t, nil, api.OK, nil, nil, "")
}

// P1.3: numbers at their ends.
func TestTextOfNumbers(t *testing.T) {
	e := fault.Wrap(fault.New(math.MinInt, math.MinInt, math.MaxUint32), math.MaxInt, 0)
	want := "op 9223372036854775807 vertex 0: op -9223372036854775808 vertex 4294967295: error -9223372036854775808"
	if got := fault.Text(e); got != want || e.Error() != want {
		t.Fatal(got)
	}
}

// P1.2, P1.3: errors that were not made here.
func TestForeign(t *testing.T) {
	plain := errors.New("plain")
	expect(t, plain, api.ErrState, nil, nil, "error 9")
	expect(t, fault.Wrap(plain, 1, 2), api.ErrState, nil, []fault.Link{{1, 2}}, "op 1 vertex 2: error 9")
	expect(t, api.ErrTerm, api.ErrTerm, []api.Errno{api.ErrTerm}, nil, "error 12")
	about := fmt.Errorf("about: %w", fault.New(api.ErrTerm, 3, 4))
	expect(t, fault.Wrap(about, 1, 2), api.ErrTerm, []api.Errno{api.ErrTerm}, []fault.Link{{1, 2}, {3, 4}}, "op 1 vertex 2: op 3 vertex 4: error 12")
	joined := errors.Join(fault.New(api.ErrTerm, 3, 4), fmt.Errorf("about: %w", api.ErrArg))
	expect(t, fault.Wrap(joined, 1, 2), api.ErrTerm, []api.Errno{api.ErrTerm, api.ErrArg}, []fault.Link{{1, 2}, {3, 4}}, "op 1 vertex 2: op 3 vertex 4: error 12")
	if !errors.Is(fault.Join([]error{fault.New(api.ErrArg, 0, 0), fault.Wrap(plain, 1, 2)}), plain) {
		t.Fatal("errors.Is doesn't see a foreign error")
	}
	// The root is that of the first one, also where it has no number.
	expect(t, fault.Join([]error{plain, api.ErrArg}), api.ErrState, []api.Errno{api.ErrArg}, nil, "error 9")
}

type loop struct{}

func (loop) Error() string   { return "loop" }
func (l loop) Unwrap() error { return l }

type spiral struct{}

func (spiral) Error() string   { return "spiral" }
func (s spiral) Unwrap() error { return fault.Wrap(ring{s, api.ErrArg}, 1, 1) }

type ring []error

func (ring) Error() string     { return "ring" }
func (r ring) Unwrap() []error { return r }

type wide struct{}

func (wide) Error() string     { return "wide" }
func (w wide) Unwrap() []error { return []error{w, nil, w, w} }

type empty struct{}

func (empty) Error() string   { return "empty" }
func (empty) Unwrap() []error { return []error{nil, nil} }

type none struct{}

func (none) Error() string { return "none" }
func (none) Unwrap() error { return nil }

type panics struct{ n *int }

func (p *panics) Error() string   { panic(*p.n) }
func (p *panics) Unwrap() []error { panic(*p.n) }

type asked struct{}

func (asked) Error() string { panic("error") }
func (asked) Is(error) bool { panic("is") }
func (asked) As(any) bool   { panic("as") }

type lists []string

func (lists) Error() string { return "lists" }

// P1: every call ends and none panics, whatever errors there are.
func TestEnds(t *testing.T) {
	for _, e := range []error{loop{}, wide{}, empty{}, none{}, (*panics)(nil), &panics{}, asked{}, lists{"a"}, (*api.Errno)(nil)} {
		expectEnd(t, e, nil, "error 9")
		expectEnd(t, fault.Wrap(e, 1, 2), []fault.Link{{1, 2}}, "op 1 vertex 2: error 9")
		j := fault.Join([]error{fault.New(api.ErrNone, 3, 4), e})
		expect(t, j, api.ErrNone, []api.Errno{api.ErrNone}, []fault.Link{{3, 4}}, "op 3 vertex 4: error 6")
	}
}

// P1: links in a ring of errors, which are told without end but for the bound.
func TestSpiral(t *testing.T) {
	e := fault.Join([]error{fault.Wrap(spiral{}, 0, 0), api.ErrFull})
	links := fault.Links(e)
	if len(links) < 1000 || links[0] != (fault.Link{}) || links[1000] != (fault.Link{Op: 1, V: 1}) {
		t.Fatal(len(links))
	}
	if fault.Code(e) != api.ErrState || !fault.Is(e, api.ErrFull) || !fault.Is(e, api.ErrArg) || fault.Is(e, api.ErrState) || !strings.HasSuffix(fault.Text(e), ": error 9") {
		t.Fatal("a ring of errors isn't told as it is")
	}
}

// P1: errors joined with themselves have as many ways to their root as nobody could go.
func TestJoinedWithItself(t *testing.T) {
	e := fault.New(api.ErrNone, 1, 2)
	for range 64 {
		e = fault.Join([]error{e, e, nil})
	}
	e = fault.Join([]error{e, api.ErrFull})
	expect(t, e, api.ErrNone, []api.Errno{api.ErrNone, api.ErrFull}, []fault.Link{{1, 2}}, "op 1 vertex 2: error 6")
}

// P1: long chains.
func TestLong(t *testing.T) {
	const many = 200000
	e, j := fault.New(api.ErrNone, 0, 0), fault.New(api.ErrNone, 0, 0)
	for i := range many {
		e = fault.Wrap(e, i, 1)
		j = fault.Wrap(fault.Join([]error{j, fault.New(allCodes[i%3], i, 2)}), i, 1)
	}
	for _, x := range []error{e, j} {
		l := fault.Links(x)
		if len(l) != many+1 || l[0] != (fault.Link{Op: many - 1, V: 1}) || l[many] != (fault.Link{}) {
			t.Fatal(len(l))
		}
		if fault.Code(x) != api.ErrNone || fault.Is(x, api.ErrFull) || !fault.Is(x, api.ErrNone) || len(fault.Text(x)) < many*len("op 1 vertex 1: ") {
			t.Fatal("a long chain isn't told as it is")
		}
	}
	if !fault.Is(j, api.ErrForm) || fault.Is(e, api.ErrForm) {
		t.Fatal("roots of a long chain")
	}
}

// P2: what is told of an error doesn't change by what else is done with it.
func TestAgain(t *testing.T) {
	full, none := fault.New(api.ErrFull, 1, 1), fault.New(api.ErrNone, 0, 2)
	for range 3 {
		expect(t, full, api.ErrFull, []api.Errno{api.ErrFull}, []fault.Link{{1, 1}}, "op 1 vertex 1: error 10")
		e := fault.Wrap(fault.Join([]error{none, full}), 4, 4)
		expect(t, e, api.ErrNone, []api.Errno{api.ErrFull, api.ErrNone}, []fault.Link{{4, 4}, {0, 2}}, "op 4 vertex 4: op 0 vertex 2: error 6")
	}
}

// The rule of memory: what is handed in is neither kept nor changed, an answer is new.
func TestMemory(t *testing.T) {
	full, none := fault.New(api.ErrFull, 1, 1), fault.New(api.ErrNone, 0, 2)
	list := []error{nil, full, none, full}
	e := fault.Join(list[:2])
	if list[0] != nil || list[1] != full || list[2] != none || list[3] != full {
		t.Fatal("what was handed in has changed")
	}
	list[1], list[2] = none, nil
	expect(t, e, api.ErrFull, []api.Errno{api.ErrFull}, []fault.Link{{1, 1}}, "op 1 vertex 1: error 10")

	w := fault.Wrap(full, 5, 5)
	links := fault.Links(w)
	links[0] = fault.Link{Op: 9, V: 9}
	_ = append(links[:1], fault.Link{Op: 9, V: 9})
	expect(t, w, api.ErrFull, []api.Errno{api.ErrFull}, []fault.Link{{5, 5}, {1, 1}}, "op 5 vertex 5: op 1 vertex 1: error 10")

	several, ok := e.(interface{ Unwrap() []error })
	if !ok {
		t.Fatal("what is joined isn't to be seen")
	}
	several.Unwrap()[0] = none
	expect(t, e, api.ErrFull, []api.Errno{api.ErrFull}, []fault.Link{{1, 1}}, "op 1 vertex 1: error 10")
}
