package place_test

import (
	"math"
	"math/rand"
	"slices"
	"testing"

	"gusset/api"
	"gusset/place"
)

// most is the greatest epoch.
const most = math.MaxUint32

// made is a directory of that many nodes.
func made(t *testing.T, nodes int) *place.Dir {
	t.Helper()
	d, e := place.New(nodes)
	if d == nil || e != api.OK {
		t.Fatalf("New(%d) = %v, %v", nodes, d, e)
	}
	return d
}

// owns holds an Owner, and what Check says of each node and of near epochs, against the entry.
func owns(t *testing.T, d *place.Dir, nodes int, should api.Entry) {
	t.Helper()
	if its, e := d.Owner(should.V); its != should || e != api.OK {
		t.Fatalf("Owner(%d) = %v, %v, not %v", should.V, its, e, should)
	}
	for node := range byte(nodes) {
		for _, epoch := range []uint32{0, 1, should.Epoch - 1, should.Epoch, should.Epoch + 1, most} {
			fault := api.OK
			if node != should.Owner {
				fault = api.ErrNone
			} else if epoch != should.Epoch {
				fault = api.ErrStale
			}
			checks(t, d, should.V, node, epoch, fault)
		}
	}
}

// lacks holds it that Owner answers the error, and nothing beside it.
func lacks(t *testing.T, d *place.Dir, v uint32, should api.Errno) {
	t.Helper()
	if its, e := d.Owner(v); its != (api.Entry{}) || e != should {
		t.Fatalf("Owner(%d) = %v, %v, not %v", v, its, e, should)
	}
}

// moves holds a Move against what it should answer.
func moves(t *testing.T, d *place.Dir, v uint32, to byte, epoch uint32, should api.Errno) {
	t.Helper()
	if e := d.Move(v, to, epoch); e != should {
		t.Fatalf("Move(%d, %d, %d) = %v, not %v", v, to, epoch, e, should)
	}
}

// checks holds a Check against what it should answer.
func checks(t *testing.T, d *place.Dir, v uint32, node byte, epoch uint32, should api.Errno) {
	t.Helper()
	if e := d.Check(v, node, epoch); e != should {
		t.Fatalf("Check(%d, %d, %d) = %v, not %v", v, node, epoch, e, should)
	}
}

// lists holds a List against what it should be.
func lists(t *testing.T, d *place.Dir, should ...api.Entry) {
	t.Helper()
	if l := d.List(); !slices.Equal(l, should) {
		t.Fatalf("List = %v, not %v", l, should)
	}
}

// P16.1: the document's examples.
func TestExample(t *testing.T) {
	d := made(t, 3)
	owns(t, d, 3, api.Entry{V: 7, Owner: 1})
	moves(t, d, 7, 2, 1, api.OK)
	checks(t, d, 7, 2, 1, api.OK)
	checks(t, d, 7, 1, 0, api.ErrNone)
	moves(t, d, 7, 0, 1, api.ErrStale)
	moves(t, d, 7, 0, 5, api.OK)
	owns(t, d, 3, api.Entry{V: 7, Owner: 0, Epoch: 5})
}

// P16.1: at first each vertex is where its number says, since epoch 0, and nothing has moved.
func TestNew(t *testing.T) {
	for nodes := 1; nodes <= api.MaxNodes; nodes++ {
		d := made(t, nodes)
		for v := uint32(1); v <= api.MaxVertex; v++ {
			owns(t, d, nodes, api.Entry{V: v, Owner: byte(v % uint32(nodes))})
		}
		lists(t, d)
	}
	for _, nodes := range []int{0, -1, -4, 5, 6, 256, 257, math.MaxInt32, math.MaxInt, math.MinInt} {
		if d, e := place.New(nodes); d != nil || e != api.ErrArg {
			t.Errorf("New(%d) = %v, %v", nodes, d, e)
		}
	}
}

// P16.1: each vertex may move to each node, also to the one that has it, and the others stay where they are.
func TestMove(t *testing.T) {
	for nodes := 1; nodes <= api.MaxNodes; nodes++ {
		for v := uint32(1); v <= api.MaxVertex; v++ {
			d := made(t, nodes)
			for to := range byte(nodes) {
				epoch := 1 + 2*uint32(to)
				moves(t, d, v, to, epoch, api.OK)
				owns(t, d, nodes, api.Entry{V: v, Owner: to, Epoch: epoch})
				moves(t, d, v, to, epoch+1, api.OK)
				owns(t, d, nodes, api.Entry{V: v, Owner: to, Epoch: epoch + 1})
				lists(t, d, api.Entry{V: v, Owner: to, Epoch: epoch + 1})
			}
			for other := uint32(1); other <= api.MaxVertex; other++ {
				if other != v {
					owns(t, d, nodes, api.Entry{V: other, Owner: byte(other % uint32(nodes))})
				}
			}
		}
	}
}

// P16.1: epochs go on, by any number, up to the greatest; one that isn't above is stale, whoever it names, and changes nothing.
func TestEpochs(t *testing.T) {
	d := made(t, 2)
	moves(t, d, 9, 0, 0, api.ErrStale)
	moves(t, d, 9, 1, 0, api.ErrStale)
	owns(t, d, 2, api.Entry{V: 9, Owner: 1})
	lists(t, d)
	now := api.Entry{V: 9, Owner: 1}
	for i, epoch := range []uint32{1, 2, 4, 1000, 1 << 31, most - 1, most} {
		now = api.Entry{V: 9, Owner: byte(i % 2), Epoch: epoch}
		moves(t, d, 9, now.Owner, epoch, api.OK)
		for _, stale := range []uint32{0, 1, epoch / 2, epoch - 1, epoch} {
			for to := range byte(2) {
				moves(t, d, 9, to, stale, api.ErrStale)
			}
		}
		owns(t, d, 2, now)
		lists(t, d, now)
	}
}

// P16.1: who owns it and since when are two things: another node is ErrNone at any epoch.
func TestCheck(t *testing.T) {
	d := made(t, 4)
	checks(t, d, 6, 2, 0, api.OK)
	checks(t, d, 6, 2, 1, api.ErrStale)
	checks(t, d, 6, 3, 0, api.ErrNone)
	checks(t, d, 6, 3, 1, api.ErrNone)
	moves(t, d, 6, 3, 4, api.OK)
	checks(t, d, 6, 3, 4, api.OK)
	for _, epoch := range []uint32{0, 1, 3, 5, 260, most} {
		checks(t, d, 6, 3, epoch, api.ErrStale)
	}
	for _, node := range []byte{0, 1, 2} {
		for _, epoch := range []uint32{0, 4, 5} {
			checks(t, d, 6, node, epoch, api.ErrNone)
		}
	}
	moves(t, d, 6, 2, 5, api.OK)
	checks(t, d, 6, 2, 0, api.ErrStale)
	checks(t, d, 6, 2, 5, api.OK)
	checks(t, d, 6, 3, 4, api.ErrNone)
}

// P16.1: what has moved rises, however it came, be it back where it was at first.
func TestList(t *testing.T) {
	d := made(t, 3)
	order := []uint32{40, 1, 7, 39, 2, 20}
	for i, v := range order {
		moves(t, d, v, byte(v%3), uint32(i+1), api.OK)
	}
	lists(t, d, api.Entry{V: 1, Owner: 1, Epoch: 2}, api.Entry{V: 2, Owner: 2, Epoch: 5}, api.Entry{V: 7, Owner: 1, Epoch: 3},
		api.Entry{V: 20, Owner: 2, Epoch: 6}, api.Entry{V: 39, Owner: 0, Epoch: 4}, api.Entry{V: 40, Owner: 1, Epoch: 1})
	var all []api.Entry
	for v := uint32(api.MaxVertex); v >= 1; v-- {
		moves(t, d, v, 2, 9, api.OK)
		all = append(all, api.Entry{V: v, Owner: 2, Epoch: 9})
	}
	slices.Reverse(all)
	lists(t, d, all...)
}

// P16.1: vertices and nodes that there are not, each in each call; that goes ahead of all else, and changes nothing.
func TestWrong(t *testing.T) {
	for nodes := 1; nodes <= api.MaxNodes; nodes++ {
		d := made(t, nodes)
		moves(t, d, 5, 0, 3, api.OK)
		for _, v := range []uint32{0, 41, 42, 45, 256, 261, 1 << 31, most} {
			lacks(t, d, v, api.ErrArg)
			for _, node := range []byte{0, byte(nodes), 255} {
				for _, epoch := range []uint32{0, 1, most} {
					moves(t, d, v, node, epoch, api.ErrArg)
					checks(t, d, v, node, epoch, api.ErrArg)
				}
			}
		}
		for _, node := range []byte{byte(nodes), byte(nodes) + 1, 4, 5, 127, 128, 255} {
			for _, v := range []uint32{1, 5, 40} {
				for _, epoch := range []uint32{0, 3, 4, most} {
					moves(t, d, v, node, epoch, api.ErrArg)
					checks(t, d, v, node, epoch, api.ErrArg)
				}
			}
		}
		owns(t, d, nodes, api.Entry{V: 5, Owner: 0, Epoch: 3})
		lists(t, d, api.Entry{V: 5, Owner: 0, Epoch: 3})
	}
}

// A nil *Dir has nothing, and a vertex that there is not goes ahead of that.
func TestNil(t *testing.T) {
	var d *place.Dir
	for _, v := range []uint32{1, 7, 40} {
		lacks(t, d, v, api.ErrNone)
		for _, epoch := range []uint32{0, 1, most} {
			moves(t, d, v, 0, epoch, api.ErrNone)
			checks(t, d, v, 0, epoch, api.ErrNone)
		}
	}
	for _, v := range []uint32{0, 41, most} {
		lacks(t, d, v, api.ErrArg)
		moves(t, d, v, 0, 1, api.ErrArg)
		checks(t, d, v, 0, 0, api.ErrArg)
	}
	lists(t, d)
}

// The rule of memory: a list that was told is new, its spare room too, and stays.
func TestMemory(t *testing.T) {
	d := made(t, 2)
	moves(t, d, 3, 0, 1, api.OK)
	moves(t, d, 5, 0, 1, api.OK)
	before, again := d.List(), d.List()
	clear(again[:cap(again)])
	should := []api.Entry{{V: 3, Epoch: 1}, {V: 5, Epoch: 1}}
	lists(t, d, should...)
	owns(t, d, 2, should[0])
	moves(t, d, 3, 1, 2, api.OK)
	moves(t, d, 1, 0, 1, api.OK)
	if !slices.Equal(before, should) {
		t.Fatalf("what was answered has changed: %v", before)
	}
}

// The promises on objects: one directory knows nothing of another one.
func TestTwo(t *testing.T) {
	one, two := made(t, 2), made(t, 2)
	moves(t, one, 3, 0, 4, api.OK)
	owns(t, two, 2, api.Entry{V: 3, Owner: 1})
	lists(t, two)
	moves(t, two, 3, 1, 1, api.OK)
	owns(t, one, 2, api.Entry{V: 3, Owner: 0, Epoch: 4})
}

// shift is a Move that was no error.
type shift struct {
	to    byte
	epoch uint32
}

// P16.1: steps by chance, held against all that was moved, the last of which counts.
func TestByChance(t *testing.T) {
	for seed := range int64(200) {
		r := rand.New(rand.NewSource(seed))
		nodes := 1 + r.Intn(api.MaxNodes)
		d := made(t, nodes)
		shifts := map[uint32][]shift{}
		for v := uint32(1); v <= api.MaxVertex; v++ {
			shifts[v] = []shift{{to: byte(v % uint32(nodes))}}
		}
		for range 200 {
			v, to, epoch := uint32(r.Intn(42)), byte(r.Intn(5)), uint32(r.Intn(12))
			its := shifts[v]
			switch {
			case v == 0 || v == 41 || int(to) >= nodes:
				moves(t, d, v, to, epoch, api.ErrArg)
			case epoch <= its[len(its)-1].epoch:
				moves(t, d, v, to, epoch, api.ErrStale)
			default:
				moves(t, d, v, to, epoch, api.OK)
				shifts[v] = append(its, shift{to, epoch})
			}
		}
		var moved []api.Entry
		for v := uint32(1); v <= api.MaxVertex; v++ {
			its := shifts[v]
			z := its[len(its)-1]
			owns(t, d, nodes, api.Entry{V: v, Owner: z.to, Epoch: z.epoch})
			if len(its) > 1 {
				moved = append(moved, api.Entry{V: v, Owner: z.to, Epoch: z.epoch})
			}
		}
		lists(t, d, moved...)
	}
}
