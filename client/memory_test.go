package client_test

import (
	"slices"
	"testing"

	"gusset/api"
)

// spread writes over a list, its spare room too, as whoever was answered it may.
func spread[T any](list []T) { clear(list[:cap(list)]) }

// The rule of memory: a request that is handed in is neither changed nor kept, nor is its spare room.
func TestRequestMemory(t *testing.T) {
	ops := []api.Op{add(1), {Kind: api.OpSet, A: 1, Key: 2, Val: text("abc")}, add(9), add(10)}
	was := slices.Clone(ops)
	c := opened(t, 1, 2)
	should := asked(1, 1, 1, tx(was[:2]...))
	calls(t, c, tx(ops[:2]...), should)
	refuses(t, c, tx(ops[:2]...), api.ErrState)
	refuses(t, c, tx(ops[:3:3]...), api.ErrState)
	if !slices.Equal(ops, was) {
		t.Fatalf("what was handed in has changed: %v", ops)
	}
	spread(ops)
	waits(t, c, should)
}

// The rule of memory: what a client asks by, once or again, is new each time, its spare room too, and stays.
func TestMessageMemory(t *testing.T) {
	r := tx(add(1), api.Op{Kind: api.OpSet, A: 1, Key: 2, Val: text("abc")}, add(2))
	should := asked(1, 1, 1, tx(slices.Clone(r.Ops)...))
	c := opened(t, 1, 2)
	first, _ := c.Call(r)
	second, _ := c.Again()
	third, _ := c.Again()
	spread(first.Req.Ops)
	if !same(second, should) || !same(third, should) || !same(asked(1, 1, 1, r), should) {
		t.Fatalf("written over: %v, %v, %v", second, third, r)
	}
	waits(t, c, should)
	spread(second.Req.Ops)
	waits(t, c, should)
	receives(t, c, answered(1, 1, api.Answer{}))
	calls(t, c, tx(add(7), add(8), add(9)), asked(1, 1, 2, tx(add(7), add(8), add(9))))
	if !same(third, should) {
		t.Fatalf("what was answered has changed: %v", third)
	}
}

// The rule of memory: an answer that comes is neither changed nor handed out.
func TestAnswerMemory(t *testing.T) {
	vals, list := []api.Value{number(5), text("abc"), number(7)}, []uint32{1, 2, 3}
	m := answered(0, 1, api.Answer{Vals: vals[:2], List: list[:2]})
	should := api.Answer{Vals: slices.Clone(vals[:2]), List: slices.Clone(list[:2])}
	c := opened(t, 0, 1)
	calls(t, c, hops(1, 1), asked(0, 0, 1, hops(1, 1)))
	a, ok := c.Receive(m)
	if !ok || !alike(a, should) {
		t.Fatalf("Receive = %v, %v", a, ok)
	}
	spread(a.Vals)
	spread(a.List)
	if !alike(m.Ans, should) || vals[2] != number(7) || list[2] != 3 {
		t.Fatalf("what was handed in has changed: %v, %v", vals, list)
	}
}

// The rule of memory: an answer stays when its message is written over, and when the next one comes.
func TestAnswerStays(t *testing.T) {
	m := answered(0, 1, api.Answer{Vals: []api.Value{number(5), text("abc")}, List: []uint32{1, 2}})
	should := api.Answer{Vals: slices.Clone(m.Ans.Vals), List: slices.Clone(m.Ans.List)}
	c := opened(t, 0, 1)
	calls(t, c, hops(1, 1), asked(0, 0, 1, hops(1, 1)))
	a, _ := c.Receive(m)
	spread(m.Ans.Vals)
	spread(m.Ans.List)
	calls(t, c, hops(1, 1), asked(0, 0, 2, hops(1, 1)))
	receives(t, c, answered(0, 2, api.Answer{Vals: []api.Value{number(6), number(6)}, List: []uint32{8, 9}}))
	if !alike(a, should) {
		t.Fatalf("what was answered has changed: %v", a)
	}
}
