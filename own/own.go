// Package own copies what the layers hand to one another: so neither is what was handed in kept, nor what is kept
// handed out.
package own

import (
	"slices"
	"strings"

	"gusset/api"
)

// Msg is m with memory of its own.
func Msg(m api.Msg) api.Msg {
	m.Req, m.Ans = Request(m.Req), Answer(m.Ans)
	m.Wants, m.Dirs, m.Nodes = list(m.Wants), list(m.Dirs), list(m.Nodes)
	m.Verts = list(m.Verts)
	for i := range m.Verts {
		m.Verts[i] = Vertex(m.Verts[i])
	}
	return m
}

// Request is r with memory of its own.
func Request(r api.Request) api.Request {
	r.Ops = list(r.Ops)
	for i := range r.Ops {
		r.Ops[i].Val = Value(r.Ops[i].Val)
	}
	return r
}

// Answer is a with memory of its own.
func Answer(a api.Answer) api.Answer {
	a.Vals, a.List = list(a.Vals), list(a.List)
	for i := range a.Vals {
		a.Vals[i] = Value(a.Vals[i])
	}
	return a
}

// Vertex is v with memory of its own.
func Vertex(v api.Vertex) api.Vertex {
	v.Props, v.Halves = list(v.Props), list(v.Halves)
	for i := range v.Props {
		v.Props[i].Val = Value(v.Props[i].Val)
	}
	for i := range v.Halves {
		v.Halves[i].Val = Value(v.Halves[i].Val)
	}
	return v
}

// Value is v with a text of its own.
func Value(v api.Value) api.Value {
	v.S = strings.Clone(v.S)
	return v
}

// list is l in memory of its own. An empty list would still point to where it was cut from, so it becomes nil.
func list[T any](l []T) []T {
	if len(l) == 0 {
		return nil
	}
	return slices.Clone(l)
}
