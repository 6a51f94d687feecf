package credit_test

import (
	"math/rand"
	"slices"
	"testing"

	"gusset/api"
	"gusset/credit"
)

// coming is a credit that came back, and was no error and no repetition.
type coming struct {
	node   byte
	num    uint64
	amount uint64
}

// out is what is out behind all that came.
func out(log []coming) uint64 {
	left := uint64(credit.Whole)
	for _, c := range log {
		left -= c.amount
	}
	return left
}

// came tells whether the message's has come.
func came(log []coming, c coming) bool {
	return slices.ContainsFunc(log, func(d coming) bool { return d.node == c.node && d.num == c.num })
}

// P17.2: credits by chance, held against all that came.
func TestByChance(t *testing.T) {
	for seed := range int64(300) {
		r := rand.New(rand.NewSource(seed))
		p := credit.New()
		var log []coming
		for range 60 {
			left := out(log)
			amounts := []uint64{0, 1, 7, left / 2, left, left + 1, credit.Whole, uint64(r.Int63n(credit.Whole)) >> r.Intn(60), most}
			c := coming{byte(r.Intn(5)), uint64(r.Intn(8)), amounts[r.Intn(len(amounts))]}
			switch {
			case came(log, c):
				comes(t, p, c.node, c.num, c.amount, false, api.OK, left)
			case c.amount > left:
				comes(t, p, c.node, c.num, c.amount, false, api.ErrRange, left)
			default:
				comes(t, p, c.node, c.num, c.amount, true, api.OK, left-c.amount)
				log = append(log, c)
			}
		}
	}
}

// trip is a message of a traversal under way.
type trip struct {
	credit uint64
	hops   int
}

// P17.1, P17.2: traversals by chance, whose credits come back in any order, some twice: the pool is done with the last of
// them, and not ahead of it.
func TestTraversals(t *testing.T) {
	for seed := range int64(200) {
		r := rand.New(rand.NewSource(seed))
		var backs []coming
		for way := []trip{{credit.Whole, 0}}; len(way) > 0; way = way[1:] {
			m := 0
			if way[0].hops < api.MaxHops && len(backs) < 300 {
				m = r.Intn(api.MaxNodes + 1)
			}
			share, rest, e := credit.Split(way[0].credit, m)
			if e != api.OK {
				t.Fatalf("Split(%d, %d) = %v", way[0].credit, m, e)
			}
			backs = append(backs, coming{byte(r.Intn(api.MaxNodes)), uint64(len(backs)), rest})
			for range m {
				way = append(way, trip{share, way[0].hops + 1})
			}
		}
		r.Shuffle(len(backs), func(i, j int) { backs[i], backs[j] = backs[j], backs[i] })
		p := credit.New()
		left := uint64(credit.Whole)
		for i, c := range backs {
			left -= c.amount
			comes(t, p, c.node, c.num, c.amount, true, api.OK, left)
			if done := i == len(backs)-1; p.Done() != done {
				t.Fatalf("seed %d: Done = %v behind %d of %d", seed, p.Done(), i+1, len(backs))
			}
			again := backs[r.Intn(i+1)]
			comes(t, p, again.node, again.num, again.amount, false, api.OK, left)
		}
	}
}
