package journal

import (
	"gusset/api"
	"gusset/plate"
)

// found is what was read of an area: where its records end, and what they have.
type found struct {
	tail
	life     uint32 // of the last record
	sealed   bool
	payloads [][]byte
}

// read goes through an area, of size pages from first on, record by record.
func read(p *plate.Plate, first, size int) found {
	f := found{tail: tail{first: first}}
	for {
		t, r, ok := recordAt(p, first+f.pages, first+size)
		if !ok || !f.goesOn(t, r.kind) {
			return f
		}
		f.take(t, r)
	}
}

// recordAt is the record whose parts stand on the pages from at on, ahead of end, and its first page's tag; false: there is none.
func recordAt(p *plate.Plate, at, end int) (tag, record, bool) {
	first, _, ok := pageAt(p, at)
	if !ok || at+int(first.parts) > end {
		return tag{}, record{}, false
	}
	var cut []byte
	should := first
	for i := range first.parts {
		should.part = i
		t, piece, ok := pageAt(p, at+int(i))
		if !ok || t != should {
			return tag{}, record{}, false
		}
		cut = append(cut, piece[:]...)
	}
	r, ok := recordOf(cut)
	return first, r, ok
}

// pageAt is the tag and the part on the page i; false: there is no such page, or it isn't whole.
func pageAt(p *plate.Plate, i int) (tag, part, bool) {
	page, e := p.Read(i)
	if e != api.OK {
		return tag{}, part{}, false
	}
	return partOf(page)
}

// goesOn tells whether a record of that tag and kind is the next one. What an earlier generation or life left behind isn't.
func (f *found) goesOn(t tag, kind byte) bool {
	if t.index != f.index {
		return false
	}
	if f.index > 0 && (t.generation != f.generation || t.life < f.life) {
		return false
	}
	if f.sealed {
		return kind == added
	}
	return kind == kept || kind == seal
}

// take puts a record, which goes on, behind those that were read.
func (f *found) take(t tag, r record) {
	f.generation, f.life = t.generation, t.life
	f.index++
	f.pages += int(t.parts)
	if r.kind == seal {
		f.sealed = true
		return
	}
	f.payloads = append(f.payloads, r.payload)
}

// newer is that of two areas which the journal is in, if any of them counts.
func newer(a, b found) found {
	if !a.sealed || b.sealed && b.generation > a.generation {
		return b
	}
	return a
}

// greatestLife is that of any half of the plate, of its last page too, which may be in no area; 0: there is none.
func greatestLife(p *plate.Plate) uint32 {
	var greatest uint32
	for _, i := range p.Written() {
		page, e := p.Read(i)
		if e != api.OK {
			continue
		}
		if t, ok := tagOf(page[:api.HalfPage], firstMark); ok {
			greatest = max(greatest, t.life)
		}
		if t, ok := tagOf(page[api.HalfPage:], lastMark); ok {
			greatest = max(greatest, t.life)
		}
	}
	return greatest
}
