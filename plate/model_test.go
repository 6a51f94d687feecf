package plate_test

import (
	"bytes"
	"math/rand"
	"slices"
	"testing"

	"gusset/api"
	"gusset/plate"
)

// model is a plate told as plainly as can be: what lasts, and the writes since, which are done anew for each look.
type model struct {
	lasts [][]byte
	late  []late
	on    bool
	arm   int // 0: at none
	ops   int
}

type late struct {
	page int
	b    []byte
}

func newModel(pages int) *model {
	m := &model{on: true, lasts: make([][]byte, pages)}
	for i := range m.lasts {
		m.lasts[i] = page()
	}
	return m
}

// operate counts one operation, and tells whether the power goes at it.
func (m *model) operate() bool {
	m.ops++
	if m.arm == 1 {
		m.on, m.arm = false, 0
		return true
	}
	m.arm = max(0, m.arm-1)
	return false
}

func (m *model) write(i int, b []byte) api.Errno {
	if i < 0 || i >= len(m.lasts) {
		return api.ErrArg
	}
	if len(b) > 64 {
		return api.ErrLong
	}
	if !m.on {
		return api.ErrDown
	}
	m.late = append(m.late, late{i, page(b)})
	if m.operate() {
		return api.ErrDown
	}
	return api.OK
}

func (m *model) flush() api.Errno {
	if !m.on || m.operate() {
		return api.ErrDown
	}
	m.settle(nil, 1)
	return api.OK
}

// settle lays the late writes over what lasts, as keep says, beyond it as else.
func (m *model) settle(keep []byte, beyond byte) {
	for n, w := range m.late {
		fate := beyond
		if n < len(keep) {
			fate = keep[n] % 4
		}
		from, to := []int{0, 0, 0, 32}[fate], []int{0, 64, 32, 64}[fate]
		copy(m.lasts[w.page][from:to], w.b[from:to])
	}
	m.late = nil
}

func (m *model) restart(keep []byte) api.Errno {
	if m.on {
		return api.ErrState
	}
	m.settle(keep, 0)
	m.on, m.arm = true, 0
	return api.OK
}

func (m *model) setArm(n int) api.Errno {
	if n < 0 {
		return api.ErrArg
	}
	if !m.on {
		return api.ErrDown
	}
	m.arm = n
	return api.OK
}

func (m *model) read(i int) ([]byte, api.Errno) {
	if i < 0 || i >= len(m.lasts) {
		return nil, api.ErrArg
	}
	if !m.on {
		return nil, api.ErrDown
	}
	b := m.lasts[i]
	for _, w := range m.late {
		if w.page == i {
			b = w.b
		}
	}
	return b, api.OK
}

// compare holds all that a plate tells against what the model tells.
func (m *model) compare(t *testing.T, p *plate.Plate) {
	t.Helper()
	var written []int
	for i := -1; i <= len(m.lasts); i++ {
		should, e := m.read(i)
		got, ge := p.Read(i)
		if ge != e || !bytes.Equal(got, should) {
			t.Fatalf("Read(%d) = % x, %v, not % x, %v", i, got, ge, should, e)
		}
		if e == api.OK && !bytes.Equal(should, page()) {
			written = append(written, i)
		}
	}
	if got := p.Written(); !slices.Equal(got, written) {
		t.Fatalf("Written = %v, not %v", got, written)
	}
	if p.On() != m.on || p.Ops() != m.ops || p.Len() != len(m.lasts) {
		t.Fatalf("On %v, Ops %d, Len %d, not %v, %d, %d", p.On(), p.Ops(), p.Len(), m.on, m.ops, len(m.lasts))
	}
}

// step does one thing, by chance, to both.
func (m *model) step(t *testing.T, p *plate.Plate, random *rand.Rand) {
	t.Helper()
	n := random.Intn(6) - 1
	switch random.Intn(10) {
	case 0, 1, 2, 3, 4:
		b := make([]byte, []int{0, 1, 20, 31, 32, 33, 63, 64, 65}[random.Intn(9)])
		if random.Intn(4) > 0 {
			random.Read(b)
		}
		want(t, "Write", p.Write(n, b), m.write(n, b))
	case 5:
		want(t, "Flush", p.Flush(), m.flush())
	case 6:
		want(t, "Arm", p.Arm(n), m.setArm(n))
	default:
		if m.on && random.Intn(4) > 0 {
			return
		}
		keep := make([]byte, random.Intn(7))
		random.Read(keep)
		want(t, "Restart", p.Restart(plate.Fate{Keep: keep}), m.restart(keep))
	}
}

// P6.1 to P6.3: a plate does as the model, step by step.
func TestAsModel(t *testing.T) {
	for seed := range int64(300) {
		m, p := newModel(4), fresh(t, 4)
		random := rand.New(rand.NewSource(seed))
		for range 150 {
			m.step(t, p, random)
			m.compare(t, p)
		}
	}
}

// P1: a plate of all its pages, and many writes that don't last.
func TestGreat(t *testing.T) {
	m, p := newModel(api.MaxPages), fresh(t, api.MaxPages)
	random := rand.New(rand.NewSource(6))
	keep := make([]byte, 150000)
	random.Read(keep)
	for n := range keep {
		b := []byte{byte(n), byte(n >> 8), byte(n >> 16)}
		i := random.Intn(api.MaxPages)
		want(t, "Write", p.Write(i, b), m.write(i, b))
	}
	want(t, "Arm", p.Arm(1), m.setArm(1))
	want(t, "Flush", p.Flush(), m.flush())
	want(t, "Restart", p.Restart(plate.Fate{Keep: keep}), m.restart(keep))
	m.compare(t, p)
	want(t, "Flush", p.Flush(), m.flush())
}
