package journal

import (
	"iter"
	"slices"

	"gusset/api"
)

// The first byte of a page's first half, and of its last one.
const (
	firstMark = 0xc3
	lastMark  = 0x3c
)

// How many bytes there are: of a half its mark and tag, and its share of a part; of a part; of a body, ahead of the payload.
const (
	tagged   = 12
	shareLen = api.HalfPage - tagged
	partLen  = 2 * shareLen
	headLen  = 3
)

// limit is what lives, generations and indexes are below: they have three bytes.
const limit = 1 << 24

// The kinds of records.
const (
	kept = iota
	seal
	added
)

// tag is what a half tells of what its share belongs to. The halves of a whole page have one tag.
type tag struct {
	life, generation, index uint32
	part, parts             byte
}

// part is a piece of a body, as long as a page holds.
type part [partLen]byte

// record is what is put on a plate: a payload, of one of the kinds.
type record struct {
	kind    byte
	payload []byte
}

// pagesOf is how many pages a record has whose payload has n bytes.
func pagesOf(n int) int {
	return (headLen + n + partLen - 1) / partLen
}

// body is the bytes of r that are cut into parts.
func (r record) body() []byte {
	n := len(r.payload)
	return append([]byte{r.kind, byte(n >> 8), byte(n)}, r.payload...)
}

// partsOf goes through the parts of a body, each with its number, the last one with 00s behind it.
func partsOf(body []byte) iter.Seq2[int, part] {
	return func(yield func(int, part) bool) {
		for i := range pagesOf(len(body) - headLen) {
			var p part
			copy(p[:], body[i*partLen:])
			if !yield(i, p) {
				return
			}
		}
	}
}

// recordOf is the record whose body was cut into the parts that cut has, one behind the other; false: no body is cut so.
func recordOf(cut []byte) (record, bool) {
	if len(cut) < headLen {
		return record{}, false
	}
	kind, n := cut[0], int(cut[1])<<8|int(cut[2])
	if n > api.MaxBytes || kind == seal && n > 0 || pagesOf(n)*partLen != len(cut) {
		return record{}, false
	}
	payload, behind := cut[headLen:headLen+n], cut[headLen+n:]
	if slices.ContainsFunc(behind, func(b byte) bool { return b != 0 }) {
		return record{}, false
	}
	return record{kind, payload}, true
}

// pageOf is a page's bytes: two halves of one tag, each with its share of the part.
func pageOf(t tag, p part) []byte {
	return slices.Concat([]byte{firstMark}, t.bytes(), p[:shareLen], []byte{lastMark}, t.bytes(), p[shareLen:])
}

// partOf is what a page holds, and its tag; false: it isn't whole.
func partOf(page []byte) (tag, part, bool) {
	first, last := page[:api.HalfPage], page[api.HalfPage:]
	t, ok := tagOf(first, firstMark)
	other, also := tagOf(last, lastMark)
	if !ok || !also || t != other {
		return tag{}, part{}, false
	}
	var p part
	copy(p[:], first[tagged:])
	copy(p[shareLen:], last[tagged:])
	return t, p, true
}

// bytes is the tag as it stands in a half.
func (t tag) bytes() []byte {
	list := make([]byte, 0, tagged)
	for _, n := range []uint32{t.life, t.generation, t.index} {
		list = append(list, byte(n>>16), byte(n>>8), byte(n))
	}
	return append(list, t.part, t.parts)
}

// tagOf is the tag of a half; false: it hasn't the mark.
func tagOf(half []byte, mark byte) (tag, bool) {
	if half[0] != mark {
		return tag{}, false
	}
	return tag{numberOf(half[1:]), numberOf(half[4:]), numberOf(half[7:]), half[10], half[11]}, true
}

// numberOf is the number of the first three bytes, the highest first.
func numberOf(p []byte) uint32 {
	return uint32(p[0])<<16 | uint32(p[1])<<8 | uint32(p[2])
}
