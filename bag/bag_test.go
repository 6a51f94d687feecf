package bag_test

import (
	"bytes"
	"math"
	"slices"
	"strconv"
	"strings"
	"testing"

	"gusset/api"
	"gusset/bag"
)

// with is a bag into which the messages were put.
func with(t *testing.T, messages ...string) *bag.Bag {
	t.Helper()
	b := bag.New()
	for _, m := range messages {
		puts(t, b, []byte(m), api.OK)
	}
	return b
}

// several is that many messages, all of them different.
func several(n int) []string {
	var list []string
	for i := range n {
		list = append(list, "message "+strconv.Itoa(i))
	}
	return list
}

// puts holds a Put against what it should answer.
func puts(t *testing.T, b *bag.Bag, p []byte, should api.Errno) {
	t.Helper()
	if e := b.Put(p); e != should {
		t.Fatalf("Put of %d bytes = %v, not %v", len(p), e, should)
	}
}

// takes holds a Take against what it should answer.
func takes(t *testing.T, b *bag.Bag, i int, should string, fault api.Errno) {
	t.Helper()
	if p, e := b.Take(i); string(p) != should || e != fault {
		t.Fatalf("Take(%d) = %q, %v, not %q, %v", i, p, e, should, fault)
	}
}

// copies holds a Copy against what it should answer.
func copies(t *testing.T, b *bag.Bag, i int, should string, fault api.Errno) {
	t.Helper()
	if p, e := b.Copy(i); string(p) != should || e != fault {
		t.Fatalf("Copy(%d) = %q, %v, not %q, %v", i, p, e, should, fault)
	}
}

// drops holds a Drop against what it should answer.
func drops(t *testing.T, b *bag.Bag, i int, should api.Errno) {
	t.Helper()
	if e := b.Drop(i); e != should {
		t.Fatalf("Drop(%d) = %v, not %v", i, e, should)
	}
}

// moves holds a Hold against what it should answer.
func moves(t *testing.T, b *bag.Bag, i int, should api.Errno) {
	t.Helper()
	if e := b.Hold(i); e != should {
		t.Fatalf("Hold(%d) = %v, not %v", i, e, should)
	}
}

// isLike tells whether the messages are those of the texts.
func isLike(list [][]byte, texts []string) bool {
	return slices.EqualFunc(list, texts, func(p []byte, s string) bool { return string(p) == s })
}

// holds holds all that the bag tells against the messages that it should have.
func holds(t *testing.T, b *bag.Bag, messages ...string) {
	t.Helper()
	if n := b.Len(); n != len(messages) {
		t.Fatalf("Len = %d, not %d", n, len(messages))
	}
	if all := b.All(); !isLike(all, messages) {
		t.Fatalf("All = %q, not %q", all, messages)
	}
	for i, m := range messages {
		copies(t, b, i, m, api.OK)
	}
	copies(t, b, len(messages), "", api.ErrNone)
}

// P20.1: the document's examples.
func TestExample(t *testing.T) {
	b := with(t, "\x61", "\x62", "\x63")
	moves(t, b, 0, api.OK)
	holds(t, b, "\x62", "\x63", "\x61")
	takes(t, b, 1, "\x63", api.OK)
	copies(t, b, 0, "\x62", api.OK)
	if b.Len() != 2 {
		t.Fatal(b.Len())
	}
	drops(t, b, 5, api.ErrNone)
	holds(t, b, "\x62", "\x61")
}

// P20.1: a new bag has nothing.
func TestNew(t *testing.T) {
	b := bag.New()
	if b == nil {
		t.Fatal("no bag")
	}
	holds(t, b)
}

// P20.1: Put puts behind all others; alike messages are as many as were put.
func TestPut(t *testing.T) {
	b := bag.New()
	var should []string
	for _, m := range []string{"b", "a", "a", "c", "a", "b", "\x00", "\x00\x00", "\xff"} {
		puts(t, b, []byte(m), api.OK)
		should = append(should, m)
		holds(t, b, should...)
	}
}

// P20.1: a message is whatever bytes, all of them as they were put.
func TestBytes(t *testing.T) {
	every := make([]byte, 256)
	for i := range every {
		every[i] = byte(i)
	}
	b := with(t, string(every), "\x00", string(every[200:]))
	holds(t, b, string(every), "\x00", string(every[200:]))
	takes(t, b, 0, string(every), api.OK)
}

// P20.1: how long a message may be; one that is too long, or has nothing, isn't put.
func TestLengths(t *testing.T) {
	for _, c := range []struct {
		n      int
		should api.Errno
	}{
		{0, api.ErrForm}, {1, api.OK}, {2, api.OK}, {4096, api.OK}, {4097, api.OK}, {16383, api.OK}, {16384, api.OK},
		{16385, api.ErrLong}, {16386, api.ErrLong}, {32768, api.ErrLong}, {65536, api.ErrLong}, {1 << 20, api.ErrLong},
	} {
		b := with(t, "first")
		text := strings.Repeat("m", c.n)
		puts(t, b, []byte(text), c.should)
		if c.should != api.OK {
			holds(t, b, "first")
			continue
		}
		holds(t, b, "first", text)
		takes(t, b, 1, text, api.OK)
	}
	b := with(t, "first")
	puts(t, b, nil, api.ErrForm)
	puts(t, b, make([]byte, 0, 20), api.ErrForm)
	holds(t, b, "first")
}

// P20.1: MaxBag messages are in, one more isn't; what is long, or nothing, is refused for that.
func TestFull(t *testing.T) {
	all := several(api.MaxBag)
	b := with(t, all[:len(all)-1]...)
	puts(t, b, nil, api.ErrForm)
	puts(t, b, make([]byte, 16385), api.ErrLong)
	puts(t, b, []byte(all[len(all)-1]), api.OK)
	for range 2 {
		puts(t, b, []byte("more"), api.ErrFull)
		puts(t, b, make([]byte, 16384), api.ErrFull)
		puts(t, b, nil, api.ErrForm)
		puts(t, b, make([]byte, 16385), api.ErrLong)
		holds(t, b, all...)
	}
}

// P20.1: of a full bag a message is held, or copied, as of any other; where one goes there is room for just one.
func TestFullGoesOn(t *testing.T) {
	all := several(api.MaxBag)
	b := with(t, all...)
	for _, i := range []int{0, 7, api.MaxBag - 1, api.MaxBag - 2} {
		moves(t, b, i, api.OK)
		all = append(slices.Delete(slices.Clone(all), i, i+1), all[i])
		holds(t, b, all...)
		puts(t, b, []byte("more"), api.ErrFull)
	}
	for _, i := range []int{0, 500, api.MaxBag - 1} {
		takes(t, b, i, all[i], api.OK)
		puts(t, b, []byte("more"), api.OK)
		puts(t, b, []byte("still more"), api.ErrFull)
		all = append(slices.Delete(all, i, i+1), "more")
		holds(t, b, all...)
		drops(t, b, i, api.OK)
		puts(t, b, []byte("less"), api.OK)
		puts(t, b, []byte("still more"), api.ErrFull)
		all = append(slices.Delete(all, i, i+1), "less")
		holds(t, b, all...)
	}
}

// P20.1: Take, Copy, Drop and Hold, each at each place of bags of some messages.
func TestEachPlace(t *testing.T) {
	for n := range 7 {
		all := several(n)
		for i, m := range all {
			rest := slices.Delete(slices.Clone(all), i, i+1)
			b := with(t, all...)
			takes(t, b, i, m, api.OK)
			holds(t, b, rest...)
			b = with(t, all...)
			drops(t, b, i, api.OK)
			holds(t, b, rest...)
			b = with(t, all...)
			moves(t, b, i, api.OK)
			holds(t, b, append(rest, m)...)
			b = with(t, all...)
			copies(t, b, i, m, api.OK)
			copies(t, b, i, m, api.OK)
			holds(t, b, all...)
		}
	}
}

// P20.1: a bag that was emptied, from either end, is as a new one.
func TestEmptied(t *testing.T) {
	all := several(20)
	first, last := with(t, all...), with(t, all...)
	for i := range all {
		takes(t, first, 0, all[i], api.OK)
		holds(t, first, all[i+1:]...)
		drops(t, last, len(all)-1-i, api.OK)
		holds(t, last, all[:len(all)-1-i]...)
	}
	for _, b := range []*bag.Bag{first, last} {
		takes(t, b, 0, "", api.ErrNone)
		puts(t, b, []byte("again"), api.OK)
		holds(t, b, "again")
	}
}

// P20.1: of a place at which there is no message nothing is answered, and nothing changes.
func TestNoSuch(t *testing.T) {
	for n := range 4 {
		all := several(n)
		b := with(t, all...)
		for _, i := range []int{-1, -2, -n, -n - 1, n, n + 1, api.MaxBag, 1 << 32, -1 << 32, math.MaxInt, math.MinInt} {
			if 0 <= i && i < n {
				continue
			}
			takes(t, b, i, "", api.ErrNone)
			copies(t, b, i, "", api.ErrNone)
			drops(t, b, i, api.ErrNone)
			moves(t, b, i, api.ErrNone)
			holds(t, b, all...)
		}
	}
}

// A nil *Bag has no message, and takes none; what is long, or nothing, is refused for that.
func TestNil(t *testing.T) {
	var b *bag.Bag
	puts(t, b, []byte("a"), api.ErrNone)
	puts(t, b, make([]byte, 16384), api.ErrNone)
	puts(t, b, make([]byte, 16385), api.ErrLong)
	puts(t, b, nil, api.ErrForm)
	for _, i := range []int{0, 1, -1, math.MaxInt, math.MinInt} {
		takes(t, b, i, "", api.ErrNone)
		copies(t, b, i, "", api.ErrNone)
		drops(t, b, i, api.ErrNone)
		moves(t, b, i, api.ErrNone)
	}
	holds(t, b)
}

// Bags know nothing of one another.
func TestApart(t *testing.T) {
	one, two := with(t, "a", "b"), with(t, "c")
	takes(t, one, 0, "a", api.OK)
	puts(t, two, []byte("d"), api.OK)
	holds(t, one, "b")
	holds(t, two, "c", "d")
}

// The rule of memory: what is put is neither changed nor kept, nor is its spare room.
func TestPutMemory(t *testing.T) {
	room := []byte("message and room")
	b := bag.New()
	puts(t, b, room[:7], api.OK)
	puts(t, b, room[:7], api.OK)
	takes(t, b, 0, "message", api.OK)
	moves(t, b, 0, api.OK)
	if string(room) != "message and room" {
		t.Fatalf("what was put has changed: %q", room)
	}
	clear(room)
	holds(t, b, "message")
}

// The rule of memory: what is answered is written over, its spare room too, and nobody else sees it.
func TestAnswersApart(t *testing.T) {
	texts := []string{"one", "two and more", "three", "four", "five", "six"}
	b := with(t, texts...)
	was := b.All()
	all := b.All()
	for i := range all {
		clear(all[i][:cap(all[i])])
		if !isLike(all[i+1:], texts[i+1:]) {
			t.Fatalf("a message of one answer has changed with another one: %q", all)
		}
	}
	clear(all[:cap(all)])
	holds(t, b, texts...)
	for i := range texts {
		p, _ := b.Copy(i)
		clear(p[:cap(p)])
		holds(t, b, texts...)
	}
	before, _ := b.Copy(2)
	taken, _ := b.Take(2)
	clear(taken[:cap(taken)])
	holds(t, b, "one", "two and more", "four", "five", "six")
	if string(before) != "three" || !isLike(was, texts) {
		t.Fatalf("an earlier answer has changed: %q, %q", before, was)
	}
}

// The rule of memory: what was answered stays, whatever comes then.
func TestAnswersStay(t *testing.T) {
	b := with(t, "one", "two", "three", "four")
	all := b.All()
	copied, _ := b.Copy(1)
	taken, _ := b.Take(2)
	for range 8 {
		puts(t, b, bytes.Repeat([]byte("z"), 12), api.OK)
		moves(t, b, 0, api.OK)
		drops(t, b, 1, api.OK)
	}
	if !isLike(all, []string{"one", "two", "three", "four"}) || string(copied) != "two" || string(taken) != "three" {
		t.Fatalf("what was answered has changed: %q, %q, %q", all, copied, taken)
	}
}
