package plan_test

import (
	"slices"
	"testing"

	"gusset/api"
	"gusset/plan"
)

// spread writes over a list, its spare room too, as whoever was answered it may.
func spread[T any](list []T) { clear(list[:cap(list)]) }

// roomy is the list with spare room that holds something.
func roomy[T any](list []T, room T) []T {
	return append(slices.Clone(list), room, room, room)[:len(list)]
}

// spare is a list with what stands in its spare room.
func spare[T any](list []T) []T { return slices.Clone(list[:len(list)+3]) }

// deep is a copy of vertices that shares nothing with them.
func deep(list []api.Vertex) []api.Vertex {
	list = slices.Clone(list)
	for i := range list {
		list[i].Props, list[i].Halves = slices.Clone(list[i].Props), slices.Clone(list[i].Halves)
	}
	return list
}

// The rule of memory: what is handed in stays as it was, its spare room too.
func TestArgumentsStay(t *testing.T) {
	one := having(to(1, 2), 0, number(5))
	one.Props, one.Halves = roomy(one.Props, api.Prop{Key: 9}), roomy(one.Halves, api.Half{Far: 99})
	verts := roomy([]api.Vertex{to(5, 4), to(2, 1), one, gone(4)}, to(77))
	list := roomy(ops(set(5, 0, number(1)), add(3), set(1, 0, number(6)), cut(2, 1), get(1, 0)), add(88))
	want := roomy(locks(9, 1, 3, 2, 4, 1), api.Want{V: 66})
	owners := roomy([]byte{1, 0, 1}, byte(44))
	wasVerts, wasList, wasWant, wasOwners := deep(verts[:len(verts)+3]), spare(list), spare(want), spare(owners)
	wasProps, wasHalves := spare(one.Props), spare(one.Halves)
	plan.Wants(list)
	plan.Groups(want, owners)
	if _, changed, e := plan.Run(verts, list); len(changed) != 4 || e != api.OK {
		t.Fatalf("Run changes %v, %v", changed, e)
	}
	plan.Frontier(verts)
	if !same(verts[:len(verts)+3], wasVerts) || !slices.Equal(spare(list), wasList) || !slices.Equal(spare(want), wasWant) || !slices.Equal(spare(owners), wasOwners) {
		t.Fatal("an argument has changed")
	}
	if !slices.Equal(spare(one.Props), wasProps) || !slices.Equal(spare(one.Halves), wasHalves) {
		t.Fatal("a vertex has changed")
	}
}

// The rule of memory: lists of one answer share nothing with each other.
func TestAnswersApart(t *testing.T) {
	list := locks(9, 1, 3, 2, 4, 1, 7, 2)
	got, _ := plan.Groups(list, []byte{1, 0, 1, 2})
	spread(got[1])
	spread(got[3])
	if !slices.Equal(got[0], locks(3, 2)) || !slices.Equal(got[2], locks(7, 2)) || !slices.Equal(list, locks(9, 1, 3, 2, 4, 1, 7, 2)) {
		t.Fatalf("written over: %v, %v", got, list)
	}
	verts := []api.Vertex{having(to(1), 0, number(5)), to(2, 9)}
	was := deep(verts)
	a, changed, _ := plan.Run(verts, ops(join(1, 2, text("x")), get(1, 0), degree(2)))
	should := deep(changed)
	spread(a.Vals)
	spread(changed[0].Props)
	spread(changed[0].Halves)
	if !same(changed[1:], should[1:]) || !same(verts, was) {
		t.Fatalf("written over: %v, %v", changed, verts)
	}
}

// The rule of memory: what is answered stays when the arguments are written over, and when the next call comes.
func TestAnswersStay(t *testing.T) {
	verts := []api.Vertex{having(to(1), 0, number(5)), to(2, 9), to(3, 40)}
	list := ops(join(1, 2, text("x")), get(1, 0), need(3, 0, api.Value{}))
	want, owners := locks(9, 1, 3, 2), []byte{3, 1}
	locked, _ := plan.Wants(list)
	groups, _ := plan.Groups(want, owners)
	a, changed, _ := plan.Run(verts, list)
	fars, _ := plan.Frontier(verts)
	wasChanged := deep(changed)
	for _, v := range verts {
		spread(v.Props)
		spread(v.Halves)
	}
	spread(verts)
	spread(list)
	spread(want)
	spread(owners)
	again, _ := plan.Wants(ops(add(30), get(31, 0), add(32)))
	spread(again)
	if !slices.Equal(locked, locks(1, 2, 2, 2, 3, 1)) || !slices.Equal(groups[3], locks(9, 1)) || !slices.Equal(groups[1], locks(3, 2)) {
		t.Fatalf("what was answered has changed: %v, %v", locked, groups)
	}
	if !slices.Equal(a.Vals, []api.Value{number(5)}) || !same(changed, wasChanged) || !slices.Equal(fars, []uint32{9, 40}) {
		t.Fatalf("what was answered has changed: %v, %v, %v", a, changed, fars)
	}
}
