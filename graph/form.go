package graph

import (
	"slices"

	"gusset/api"
	"gusset/value"
)

// Check tells whether r is in form.
func Check(r api.Request) api.Errno {
	switch r.Kind {
	case api.ReqTx:
		return checkTx(r)
	case api.ReqHops:
		return checkOne(r, r.K, api.MaxHops, r.To)
	case api.ReqMove:
		return checkOne(r, r.To, api.MaxNodes-1, r.K)
	}
	return api.ErrArg
}

// checkTx tells whether r, a ReqTx, is in form.
func checkTx(r api.Request) api.Errno {
	if len(r.Ops) == 0 || len(r.Ops) > api.MaxOps {
		return api.ErrLong
	}
	if r.V != 0 || r.K != 0 || r.To != 0 || slices.ContainsFunc(r.Ops, isFormless) {
		return api.ErrForm
	}
	return api.OK
}

// checkOne tells whether r, which asks about one vertex, is in form: its number used is at most most, the unused one zero.
func checkOne(r api.Request, used, most, unused int) api.Errno {
	if used < 0 || used > most {
		return api.ErrArg
	}
	if !isVertex(r.V) || unused != 0 || len(r.Ops) > 0 {
		return api.ErrForm
	}
	return api.OK
}

// parts tells which of its fields an operation uses, beside its Kind and A.
type parts struct{ b, key, val bool }

// partsOf is what operations of a kind use; false: there is no such kind.
func partsOf(kind byte) (p parts, ok bool) {
	switch kind {
	case api.OpSet, api.OpNeed:
		p.val = true
		fallthrough
	case api.OpGet:
		p.key = true
	case api.OpJoin:
		p.val = true
		fallthrough
	case api.OpCut, api.OpEdge:
		p.b = true
	case api.OpAdd, api.OpDel, api.OpDegree:
	default:
		return p, false
	}
	return p, true
}

// isFormless tells whether op is not in form.
func isFormless(op api.Op) bool {
	p, ok := partsOf(op.Kind)
	return !ok || !isVertex(op.A) || !isFar(op, p.b) || !isKey(op.Key, p.key) || !isVal(op.Val, p.val)
}

// isFar tells whether op may have its B.
func isFar(op api.Op, used bool) bool {
	if !used {
		return op.B == 0
	}
	return isVertex(op.B) && op.B != op.A
}

// isKey tells whether an operation may have the key.
func isKey(key byte, used bool) bool {
	return key == 0 || used && key <= api.MaxKey
}

// isVal tells whether an operation may have the value.
func isVal(v api.Value, used bool) bool {
	return v == api.Value{} || used && value.Check(v) == api.OK
}

// isVertex tells whether v is a vertex' number.
func isVertex(v uint32) bool {
	return 1 <= v && v <= api.MaxVertex
}

// isVertexFormed tells whether v may be put.
func isVertexFormed(v api.Vertex) bool {
	if !isVertex(v.ID) {
		return false
	}
	if !v.There {
		return len(v.Props) == 0 && len(v.Halves) == 0
	}
	return areProps(v.Props) && areHalves(v.ID, v.Halves)
}

// areProps tells whether a vertex may have the properties.
func areProps(list []api.Prop) bool {
	for i, p := range list {
		if i > 0 && p.Key <= list[i-1].Key || p.Key > api.MaxKey {
			return false
		}
		if p.Val.Kind == api.None || value.Check(p.Val) != api.OK {
			return false
		}
	}
	return true
}

// areHalves tells whether the vertex id may have the halves.
func areHalves(id uint32, list []api.Half) bool {
	if len(list) > api.MaxHalves {
		return false
	}
	for i, h := range list {
		if i > 0 && h.Far <= list[i-1].Far || !isVertex(h.Far) || h.Far == id {
			return false
		}
		if value.Check(h.Val) != api.OK {
			return false
		}
	}
	return true
}
