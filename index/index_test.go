package index_test

import (
	"math"
	"math/rand"
	"slices"
	"testing"

	"gusset/api"
	"gusset/index"
)

// want holds an error against what it should be.
func want(t *testing.T, what string, got, should api.Errno) {
	t.Helper()
	if got != should {
		t.Fatalf("%s: %v, not %v", what, got, should)
	}
}

// with is an index with the keys, each with its double under it.
func with(t *testing.T, keys ...uint64) *index.Index {
	t.Helper()
	x := index.New()
	for _, k := range keys {
		want(t, "Put", x.Put(k, 2*k), api.OK)
	}
	return x
}

// items is the keys' items.
func items(keys ...uint64) []index.Item {
	var list []index.Item
	for _, k := range keys {
		list = append(list, index.Item{K: k, V: 2 * k})
	}
	return list
}

// holds holds all that x tells of its items as a whole against the list.
func holds(t *testing.T, x *index.Index, should []index.Item) {
	t.Helper()
	pages := x.Pages()
	for _, page := range pages {
		if len(page) < 1 || len(page) > 8 || len(pages) > 1 && len(page) < 2 {
			t.Fatalf("Pages = %v", pages)
		}
	}
	if got := slices.Concat(pages...); !slices.Equal(got, should) {
		t.Fatalf("Pages = %v, not %v", pages, should)
	}
	if got := x.Range(0, math.MaxUint64); !slices.Equal(got, should) {
		t.Fatalf("Range = %v, not %v", got, should)
	}
	if x.Len() != len(should) {
		t.Fatalf("Len = %d, not %d", x.Len(), len(should))
	}
}

// gives holds Get, Next and Range about the keys from from to to, asked one by one, against the list.
func gives(t *testing.T, x *index.Index, from, to uint64, should []index.Item) {
	t.Helper()
	for k := to; ; k-- {
		at, ok := slices.BinarySearchFunc(should, k, byKey)
		if v, got := x.Get(k); got != ok || ok && v != should[at].V || !ok && v != 0 {
			t.Fatalf("Get(%d) = %d, %v", k, v, got)
		}
		next, more := x.Next(k)
		if more != (at < len(should)) || more && next != should[at] || !more && next != (index.Item{}) {
			t.Fatalf("Next(%d) = %v, %v", k, next, more)
		}
		for _, far := range []uint64{k, k + 1, k + 5, k + 30, k - 1, 0, math.MaxUint64} {
			var list []index.Item
			for _, one := range should {
				if k <= one.K && one.K <= far {
					list = append(list, one)
				}
			}
			if got := x.Range(k, far); !slices.Equal(got, list) {
				t.Fatalf("Range(%d, %d) = %v, not %v", k, far, got, list)
			}
		}
		if k == from {
			return
		}
	}
}

// byKey is where an item stands to a key.
func byKey(one index.Item, k uint64) int {
	switch {
	case one.K < k:
		return -1
	case one.K > k:
		return 1
	}
	return 0
}

// P10.1 to P10.3: the document's example.
func TestExample(t *testing.T) {
	x := with(t, 9, 5, 7)
	if one, ok := x.Next(6); !ok || one != (index.Item{K: 7, V: 14}) {
		t.Errorf("Next(6) = %v, %v", one, ok)
	}
	if got := x.Range(5, 8); !slices.Equal(got, items(5, 7)) {
		t.Errorf("Range(5, 8) = %v", got)
	}
	if got := x.Pages(); len(got) != 1 || !slices.Equal(got[0], items(5, 7, 9)) {
		t.Errorf("Pages = %v", got)
	}
}

// P10.1: a later Put takes the place of an earlier one; Delete takes it away, once; other keys stay.
func TestPutDelete(t *testing.T) {
	x := with(t, 5, 7)
	want(t, "Put", x.Put(5, 1), api.OK)
	holds(t, x, []index.Item{{K: 5, V: 1}, {K: 7, V: 14}})
	want(t, "Put", x.Put(5, 0), api.OK)
	if v, ok := x.Get(5); v != 0 || !ok {
		t.Errorf("Get(5) = %d, %v", v, ok)
	}
	for _, k := range []uint64{0, 4, 6, 8, math.MaxUint64} {
		want(t, "Delete of what isn't there", x.Delete(k), api.ErrNone)
		if v, ok := x.Get(k); v != 0 || ok {
			t.Errorf("Get(%d) = %d, %v", k, v, ok)
		}
	}
	holds(t, x, []index.Item{{K: 5, V: 0}, {K: 7, V: 14}})
	want(t, "Delete", x.Delete(5), api.OK)
	want(t, "Delete again", x.Delete(5), api.ErrNone)
	holds(t, x, items(7))
	want(t, "Delete", x.Delete(7), api.OK)
	want(t, "Delete again", x.Delete(7), api.ErrNone)
	holds(t, x, nil)
	want(t, "Put", x.Put(7, 14), api.OK)
	holds(t, x, items(7))
}

// P10.1, P10.2: the least and the greatest number, as keys and under them.
func TestEnds(t *testing.T) {
	const top = math.MaxUint64
	x := index.New()
	for _, k := range []uint64{top, 0, top - 1, 1} {
		want(t, "Put", x.Put(k, top-k), api.OK)
	}
	should := []index.Item{{K: 0, V: top}, {K: 1, V: top - 1}, {K: top - 1, V: 1}, {K: top, V: 0}}
	holds(t, x, should)
	gives(t, x, 0, 3, should)
	gives(t, x, top-3, top, should)
	if got := x.Range(top, 0); len(got) != 0 {
		t.Errorf("Range(top, 0) = %v", got)
	}
	want(t, "Delete", x.Delete(top), api.OK)
	want(t, "Delete", x.Delete(0), api.OK)
	if one, ok := x.Next(top); ok || one != (index.Item{}) {
		t.Errorf("Next(top) = %v, %v", one, ok)
	}
	holds(t, x, should[1:3])
}

// P10.1 to P10.3: an index with nothing, and a nil one.
func TestNothing(t *testing.T) {
	var none *index.Index
	for _, x := range []*index.Index{none, index.New()} {
		holds(t, x, nil)
		gives(t, x, 0, 5, nil)
		gives(t, x, math.MaxUint64-5, math.MaxUint64, nil)
		want(t, "Delete", x.Delete(0), api.ErrNone)
		if len(x.Pages()) != 0 {
			t.Errorf("Pages = %v", x.Pages())
		}
	}
	want(t, "Put on nil", none.Put(1, 2), api.ErrNone)
	holds(t, none, nil)
}

// orders is ways to go through n keys.
var orders = []struct {
	name string
	list func(n int) []uint64
}{
	{"rising", rising},
	{"falling", func(n int) []uint64 {
		list := rising(n)
		slices.Reverse(list)
		return list
	}},
	{"from the middle", func(n int) []uint64 {
		list := rising(n)
		slices.SortStableFunc(list, func(a, b uint64) int { return int(distance(a, n)) - int(distance(b, n)) })
		return list
	}},
	{"to the middle", func(n int) []uint64 {
		list := rising(n)
		slices.SortStableFunc(list, func(a, b uint64) int { return int(distance(b, n)) - int(distance(a, n)) })
		return list
	}},
	{"with gaps, then the gaps", func(n int) []uint64 {
		list := rising(n)
		slices.SortStableFunc(list, func(a, b uint64) int { return int(a/3%3) - int(b/3%3) })
		return list
	}},
	{"by chance", func(n int) []uint64 {
		list := rising(n)
		rand.New(rand.NewSource(int64(n))).Shuffle(n, func(i, j int) { list[i], list[j] = list[j], list[i] })
		return list
	}},
}

// rising is the first n keys that are 3, 6, 9 and on.
func rising(n int) []uint64 {
	var list []uint64
	for i := range n {
		list = append(list, uint64(3*i+3))
	}
	return list
}

// distance is how far a key is from the middle one of n.
func distance(k uint64, n int) uint64 {
	middle := uint64(3 * n / 2)
	return max(k, middle) - min(k, middle)
}

// P10.1 to P10.3: many keys, put in any order and taken away in any order: at each step all is as it should be.
func TestOrders(t *testing.T) {
	for n := 1; n <= 70; n += 1 + n/8 {
		for _, in := range orders {
			for _, out := range orders {
				x := index.New()
				var should []index.Item
				for _, k := range in.list(n) {
					want(t, "Put", x.Put(k, 2*k), api.OK)
					at, _ := slices.BinarySearchFunc(should, k, byKey)
					should = slices.Insert(should, at, index.Item{K: k, V: 2 * k})
					holds(t, x, should)
				}
				gives(t, x, 0, uint64(3*n+4), should)
				for _, k := range out.list(n) {
					want(t, "Delete", x.Delete(k), api.OK)
					at, _ := slices.BinarySearchFunc(should, k, byKey)
					should = slices.Delete(should, at, at+1)
					holds(t, x, should)
				}
			}
		}
	}
}

// P10.1: as many keys as there may be; one more is ErrFull, and changes nothing; under those that are there Put goes on.
func TestFull(t *testing.T) {
	for _, order := range orders {
		keys := order.list(api.MaxItems)
		x := with(t, keys...)
		should := items(rising(api.MaxItems)...)
		holds(t, x, should)
		for _, k := range []uint64{0, 1, 4, 3*api.MaxItems + 1, math.MaxUint64} {
			want(t, "Put beyond", x.Put(k, 1), api.ErrFull)
		}
		holds(t, x, should)
		for at := range should {
			should[at].V = uint64(at)
			want(t, "Put again", x.Put(should[at].K, uint64(at)), api.OK)
		}
		holds(t, x, should)
		want(t, "Delete", x.Delete(keys[0]), api.OK)
		want(t, "Delete", x.Delete(keys[0]), api.ErrNone)
		want(t, "Put", x.Put(1, 1), api.OK)
		want(t, "Put beyond", x.Put(keys[0], 1), api.ErrFull)
		want(t, "Put again", x.Put(1, 0), api.OK)
		if x.Len() != api.MaxItems {
			t.Errorf("Len = %d", x.Len())
		}
	}
}

// P10.1 to P10.3: many steps by chance, now with more keys that come, now with more that go, held against a list.
func TestByChance(t *testing.T) {
	r := rand.New(rand.NewSource(10))
	for _, keys := range []int{1, 3, 12, 60, 300, 2000} {
		x := index.New()
		var should []index.Item
		for step := range 4000 {
			k, v := uint64(r.Intn(keys)), r.Uint64()
			at, ok := slices.BinarySearchFunc(should, k, byKey)
			switch grows := step/(2*keys)%2 == 0; {
			case grows == (r.Intn(5) > 0):
				want(t, "Put", x.Put(k, v), api.OK)
				if !ok {
					should = slices.Insert(should, at, index.Item{})
				}
				should[at] = index.Item{K: k, V: v}
			case ok:
				want(t, "Delete", x.Delete(k), api.OK)
				should = slices.Delete(should, at, at+1)
			default:
				want(t, "Delete", x.Delete(k), api.ErrNone)
			}
			holds(t, x, should)
			gives(t, x, k, k+1, should)
		}
	}
}

// The rule of memory: what is answered is new; writing over it, and over its spare room, changes nothing else.
func TestMemory(t *testing.T) {
	should := items(rising(40)...)
	x := with(t, rising(40)...)
	pages, list, part := x.Pages(), x.Range(0, math.MaxUint64), x.Range(6, 9)
	clear(part[:cap(part)])
	clear(list[:cap(list)])
	holds(t, x, should)
	for i := range pages {
		page := slices.Clone(pages[i])
		clear(pages[i][:cap(pages[i])])
		holds(t, x, should)
		pages[i] = page
	}
	for i := range pages {
		pages[i] = append(pages[i], index.Item{K: 1, V: 1})[:len(pages[i])]
	}
	if got := slices.Concat(pages...); !slices.Equal(got, should) {
		t.Errorf("pages share memory: %v", got)
	}
	clear(pages[:cap(pages)])
	holds(t, x, should)
	want(t, "Put", x.Put(100000, 1), api.OK)
	holds(t, x, append(should, index.Item{K: 100000, V: 1}))
}

// The promises on objects: one index knows nothing of another one.
func TestTwo(t *testing.T) {
	x, y := with(t, 1, 2, 3), with(t, 2)
	want(t, "Delete", x.Delete(2), api.OK)
	want(t, "Put", y.Put(9, 18), api.OK)
	holds(t, x, items(1, 3))
	holds(t, y, items(2, 9))
}
