package lock_test

import (
	"cmp"
	"math/rand"
	"slices"
	"testing"

	"gusset/api"
	"gusset/lock"
)

// one is what the model knows of a transaction.
type one struct {
	tx    api.TxID
	age   uint64
	fast  bool
	held  []api.Want
	wants []api.Want
}

// model is locks as the chapter's words tell them: lists that are gone through, the oldest first.
type model []*one

// older tells whether a is older than b.
func older(a, b *one) bool {
	if a.age != b.age {
		return a.age < b.age
	}
	x, y := a.tx, b.tx
	return x.Node < y.Node || x.Node == y.Node && (x.Inc < y.Inc || x.Inc == y.Inc && x.Seq < y.Seq)
}

// clashes tells whether one of a list clashes with one of the other.
func clashes(a, b []api.Want) bool {
	for _, x := range a {
		for _, y := range b {
			if x.V == y.V && (x.Mode != api.Shared || y.Mode != api.Shared) {
				return true
			}
		}
	}
	return false
}

// find is tx as the model knows it.
func (m *model) find(tx api.TxID) *one {
	for _, o := range *m {
		if o.tx == tx {
			return o
		}
	}
	return nil
}

// forget takes away those that neither hold nor wait.
func (m *model) forget() {
	*m = slices.DeleteFunc(*m, func(o *one) bool { return len(o.held) == 0 && len(o.wants) == 0 })
}

// count is how many locks there are.
func (m *model) count() int {
	n := 0
	for _, o := range *m {
		n += len(o.held)
	}
	return n
}

// settle goes through those that wait, the oldest first.
func (m *model) settle() []api.TxID {
	var granted []api.TxID
	for _, o := range *m {
		if len(o.wants) == 0 {
			continue
		}
		free := true
		for _, other := range *m {
			if other != o && (clashes(o.wants, other.held) || older(other, o) && clashes(o.wants, other.wants)) {
				free = false
			}
		}
		if free {
			for _, w := range o.wants {
				o.hold(w)
			}
			o.wants = nil
			granted = append(granted, o.tx)
		}
	}
	return granted
}

// hold lets the transaction hold w beside what it holds.
func (o *one) hold(w api.Want) {
	for i, h := range o.held {
		if h.V == w.V {
			o.held[i].Mode = max(h.Mode, w.Mode)
			return
		}
	}
	o.held = append(o.held, w)
	slices.SortFunc(o.held, func(a, b api.Want) int { return cmp.Compare(a.V, b.V) })
}

// fault is the least error of an Ask.
func (m *model) fault(tx api.TxID, age uint64, wants []api.Want) api.Errno {
	verts := map[uint32]int{}
	for _, w := range wants {
		verts[w.V]++
		if w.V == 0 || w.V > 40 || w.Mode != api.Shared && w.Mode != api.Exclusive {
			return api.ErrArg
		}
	}
	o := m.find(tx)
	switch {
	case len(wants) > 40:
		return api.ErrLong
	case len(wants) == 0 || len(verts) < len(wants):
		return api.ErrForm
	case o != nil && (len(o.wants) > 0 || o.fast || o.age != age):
		return api.ErrState
	case m.count()+len(wants) > 256:
		return api.ErrFull
	}
	return api.OK
}

// ask is Ask.
func (m *model) ask(tx api.TxID, age uint64, wants []api.Want) (granted, wounded []api.TxID, e api.Errno) {
	if e := m.fault(tx, age, wants); e != api.OK {
		return nil, nil, e
	}
	mine := m.find(tx)
	if mine == nil {
		mine = &one{tx: tx, age: age}
		*m = append(*m, mine)
		slices.SortFunc(*m, func(a, b *one) int {
			if older(a, b) {
				return -1
			}
			return 1
		})
	}
	mine.wants = slices.Clone(wants)
	for _, o := range *m {
		if o != mine && older(mine, o) && !o.fast && clashes(o.held, wants) {
			o.held, o.wants = nil, nil
			wounded = append(wounded, o.tx)
		}
	}
	m.forget()
	return m.settle(), wounded, api.OK
}

// keep is Hold.
func (m *model) keep(tx api.TxID) api.Errno {
	o := m.find(tx)
	switch {
	case o == nil:
		return api.ErrNone
	case len(o.wants) > 0:
		return api.ErrState
	}
	o.fast = true
	return api.OK
}

// release is Release.
func (m *model) release(tx api.TxID) []api.TxID {
	if o := m.find(tx); o != nil {
		o.held, o.wants = nil, nil
	}
	m.forget()
	return m.settle()
}

// same holds all that the table tells against the model.
func same(t *testing.T, table *lock.Table, m *model, all []api.TxID) {
	t.Helper()
	var waits []api.TxID
	for _, o := range *m {
		if len(o.wants) > 0 {
			waits = append(waits, o.tx)
		}
	}
	if l := table.Waiting(); !slices.Equal(l, waits) {
		t.Fatalf("Waiting = %v, not %v", l, waits)
	}
	if n := table.Count(); n != m.count() {
		t.Fatalf("Count = %d, not %d", n, m.count())
	}
	for _, tx := range all {
		var held []api.Want
		o := m.find(tx)
		if o != nil {
			held = o.held
		}
		if l := table.Locks(tx); !slices.Equal(l, held) {
			t.Fatalf("Locks(%v) = %v, not %v", tx, l, held)
		}
		if known := table.Known(tx); known != (o != nil) {
			t.Fatalf("Known(%v) = %v", tx, known)
		}
	}
}

// goesOn holds it that no two locks clash, that who is older waits for no younger one but for those that are fast, and
// that the oldest of those that wait does so for one that doesn't.
func goesOn(t *testing.T, table *lock.Table, m *model) {
	t.Helper()
	waits := table.Waiting()
	for _, o := range *m {
		for _, other := range *m {
			if o == other {
				continue
			}
			if clashes(table.Locks(o.tx), table.Locks(other.tx)) {
				t.Fatalf("locks of %v and %v clash", o.tx, other.tx)
			}
			if older(o, other) && !other.fast && clashes(o.wants, table.Locks(other.tx)) {
				t.Fatalf("%v waits for %v, which is younger", o.tx, other.tx)
			}
		}
	}
	if len(waits) == 0 {
		return
	}
	first := m.find(waits[0])
	if !slices.ContainsFunc(*m, func(o *one) bool { return !slices.Contains(waits, o.tx) && clashes(first.wants, table.Locks(o.tx)) }) {
		t.Fatalf("%v waits for nobody that doesn't wait", first.tx)
	}
}

// chance is a source of steps.
type chance struct {
	*rand.Rand
	all   []api.TxID
	verts []uint32
}

// chanceOf is a source of steps of few transactions, whose names are near one another, on few vertices.
func chanceOf(seed int64) chance {
	r := chance{Rand: rand.New(rand.NewSource(seed))}
	for range 3 + r.Intn(8) {
		r.all = append(r.all, api.TxID{Node: byte(r.Intn(2)), Inc: uint32(r.Intn(2)), Seq: uint32(r.Intn(3))})
	}
	for range 1 + r.Intn(5) {
		r.verts = append(r.verts, uint32(1+r.Intn(api.MaxVertex)))
	}
	return r
}

// wants is some wants, seldom wrong ones.
func (r chance) wants(wrong int) []api.Want {
	var list []api.Want
	for _, v := range r.verts {
		if r.Intn(2) == 0 && !slices.ContainsFunc(list, func(w api.Want) bool { return w.V == v }) {
			list = append(list, api.Want{V: v, Mode: byte(1 + r.Intn(2))})
		}
	}
	r.Shuffle(len(list), func(i, j int) { list[i], list[j] = list[j], list[i] })
	switch r.Intn(wrong) {
	case 0:
		list = append(list, api.Want{V: uint32(r.Intn(43)), Mode: byte(r.Intn(4))})
	case 1:
		list = append(list, list...)
	case 2:
		list = append(every(byte(1+r.Intn(2)), 40), list...)
	}
	return list
}

// step does one thing to the table and to the model, and holds the answers against each other.
func step(t *testing.T, r chance, table *lock.Table, m *model) {
	t.Helper()
	tx := r.all[r.Intn(len(r.all))]
	switch r.Intn(6) {
	default:
		age := uint64(tx.Seq)
		if r.Intn(10) == 0 {
			age = uint64(r.Intn(3))
		}
		wants := r.wants(40)
		granted, wounded, e := m.ask(tx, age, wants)
		g, w, got := table.Ask(tx, age, wants)
		if !slices.Equal(g, granted) || !slices.Equal(w, wounded) || got != e {
			t.Fatalf("Ask(%v, %d, %v) = %v, %v, %v, not %v, %v, %v", tx, age, wants, g, w, got, granted, wounded, e)
		}
	case 0:
		if got, e := table.Hold(tx), m.keep(tx); got != e {
			t.Fatalf("Hold(%v) = %v, not %v", tx, got, e)
		}
	case 1:
		granted := m.release(tx)
		if g, e := table.Release(tx); !slices.Equal(g, granted) || e != api.OK {
			t.Fatalf("Release(%v) = %v, %v, not %v", tx, g, e, granted)
		}
	}
}

// P13.1 to P13.3: steps by chance, each answer and all that is told held against the model.
func TestByChance(t *testing.T) {
	for seed := range int64(400) {
		r := chanceOf(seed)
		table, m := lock.New(), &model{}
		for range 150 {
			step(t, r, table, m)
			same(t, table, m, r.all)
			goesOn(t, table, m)
		}
	}
}

// P13.1: steps by chance of transactions that want nearly all there is, so that MaxLocks is come to.
func TestFullByChance(t *testing.T) {
	full := 0
	for seed := range int64(20) {
		r := chanceOf(seed)
		r.all = txs(1, 2, 3, 4, 5, 6, 7, 8, 9, 10)
		table, m := lock.New(), &model{}
		for range 100 {
			tx := r.all[r.Intn(len(r.all))]
			wants := every(api.Shared, 1+r.Intn(40))
			if r.Intn(30) == 0 {
				wants[r.Intn(len(wants))].Mode = api.Exclusive
			}
			if r.Intn(12) == 0 {
				m.release(tx)
				table.Release(tx)
			}
			granted, wounded, e := m.ask(tx, uint64(tx.Seq), wants)
			g, w, got := table.Ask(tx, uint64(tx.Seq), wants)
			if !slices.Equal(g, granted) || !slices.Equal(w, wounded) || got != e {
				t.Fatalf("Ask(%v, %v) = %v, %v, %v, not %v, %v, %v", tx, wants, g, w, got, granted, wounded, e)
			}
			if e == api.ErrFull {
				full++
			}
			same(t, table, m, r.all)
		}
	}
	if full < 20 {
		t.Errorf("ErrFull only %d times", full)
	}
}
