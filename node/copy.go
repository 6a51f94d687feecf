package node

import (
	"slices"
	"strings"

	"gusset/api"
)

// ownMsg is m with memory of its own: neither is what comes kept, nor what is kept sent.
func ownMsg(m api.Msg) api.Msg {
	m.Req, m.Ans = ownRequest(m.Req), ownAnswer(m.Ans)
	m.Wants, m.Dirs, m.Nodes = slices.Clone(m.Wants), slices.Clone(m.Dirs), slices.Clone(m.Nodes)
	m.Verts = ownVerts(m.Verts)
	return m
}

// ownRequest is r with memory of its own.
func ownRequest(r api.Request) api.Request {
	r.Ops = slices.Clone(r.Ops)
	for i := range r.Ops {
		r.Ops[i].Val = ownValue(r.Ops[i].Val)
	}
	return r
}

// ownAnswer is a with memory of its own.
func ownAnswer(a api.Answer) api.Answer {
	a.Vals, a.List = slices.Clone(a.Vals), slices.Clone(a.List)
	for i := range a.Vals {
		a.Vals[i] = ownValue(a.Vals[i])
	}
	return a
}

// ownVerts is vertices with memory of their own.
func ownVerts(list []api.Vertex) []api.Vertex {
	list = slices.Clone(list)
	for i := range list {
		v := &list[i]
		v.Props, v.Halves = slices.Clone(v.Props), slices.Clone(v.Halves)
		for k := range v.Props {
			v.Props[k].Val = ownValue(v.Props[k].Val)
		}
		for k := range v.Halves {
			v.Halves[k].Val = ownValue(v.Halves[k].Val)
		}
	}
	return list
}

// ownValue is v with a text of its own.
func ownValue(v api.Value) api.Value {
	v.S = strings.Clone(v.S)
	return v
}
