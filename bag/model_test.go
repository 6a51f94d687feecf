package bag_test

import (
	"math/rand"
	"strconv"
	"testing"

	"gusset/api"
	"gusset/bag"
)

// model is what a bag should have: messages under ranks, the last one under the greatest. Whatever comes gets a new rank.
type model struct {
	ranks map[int]string
	next  int
}

// list is the messages, and their ranks, in order.
func (m *model) list() (texts []string, ranks []int) {
	for rank := range m.next {
		if text, there := m.ranks[rank]; there {
			texts, ranks = append(texts, text), append(ranks, rank)
		}
	}
	return texts, ranks
}

// put puts a text behind all others.
func (m *model) put(text string) {
	m.ranks[m.next] = text
	m.next++
}

// at is the rank of the i-th message; false: there is none.
func (m *model) at(i int) (int, bool) {
	_, ranks := m.list()
	if i < 0 || i >= len(ranks) {
		return 0, false
	}
	return ranks[i], true
}

// does does the same with a bag and with its model: kind says what, i with which message.
func (m *model) does(t *testing.T, b *bag.Bag, kind, i int) {
	t.Helper()
	if kind == 0 {
		text := strconv.Itoa(m.next)
		m.put(text)
		puts(t, b, []byte(text), api.OK)
		return
	}
	rank, there := m.at(i)
	text, fault := m.ranks[rank], api.OK
	if !there {
		text, fault = "", api.ErrNone
	}
	switch kind {
	case 1:
		takes(t, b, i, text, fault)
	case 2:
		copies(t, b, i, text, fault)
		return
	case 3:
		drops(t, b, i, fault)
	case 4:
		moves(t, b, i, fault)
	}
	if there {
		delete(m.ranks, rank)
		if kind == 4 {
			m.put(text)
		}
	}
}

// P20.1: all ways in which some steps may go with a bag of three messages.
func TestAllWays(t *testing.T) {
	type step struct{ kind, i int }
	steps := []step{{}}
	for kind := 1; kind <= 4; kind++ {
		for i := -1; i <= 3; i++ {
			steps = append(steps, step{kind, i})
		}
	}
	for way := range len(steps) * len(steps) * len(steps) {
		b, m := bag.New(), &model{ranks: map[int]string{}}
		for range 3 {
			m.does(t, b, 0, 0)
		}
		for range 3 {
			s := steps[way%len(steps)]
			way /= len(steps)
			m.does(t, b, s.kind, s.i)
		}
		texts, _ := m.list()
		holds(t, b, texts...)
	}
}

// P20.1: steps by chance, with few messages and with many.
func TestByChance(t *testing.T) {
	for seed := range int64(120) {
		r := rand.New(rand.NewSource(seed))
		b, m := bag.New(), &model{ranks: map[int]string{}}
		for range int(seed) * 2 {
			m.does(t, b, 0, 0)
		}
		for range 150 {
			kind := r.Intn(5)
			if r.Intn(3) == 0 {
				kind = 0
			}
			m.does(t, b, kind, r.Intn(b.Len()+3)-1)
			texts, _ := m.list()
			holds(t, b, texts...)
		}
	}
}
