package wire

import (
	"errors"
	"math"

	"gusset/api"
	"gusset/fault"
	"gusset/rank"
)

// tape is bytes behind which a thing is written, or off whose front it is read. Both go through the thing's parts in the
// same way, by pointers to them: so the two can't come apart. What is written is never changed through its pointer: it
// may be the caller's.
type tape struct {
	bytes    []byte // what was written, or what is still to be read
	reading  bool
	formless bool // a value that was to be written isn't in form
}

// write is the bytes of all that form goes through.
func write(form func(*tape)) ([]byte, api.Errno) {
	t := &tape{}
	e := attempt(func() {
		form(t)
		if t.formless {
			t.giveUp(api.ErrForm)
		}
	})
	if e != api.OK {
		return nil, e
	}
	return t.bytes, api.OK
}

// read reads all that form goes through off the front of p, and answers how many bytes that has.
func read(p []byte, form func(*tape)) (int, api.Errno) {
	t := &tape{bytes: p, reading: true}
	if e := attempt(func() { form(t) }); e != api.OK {
		return 0, e
	}
	return len(p) - len(t.bytes), api.OK
}

// attempt does what may give up, and answers with which error it did.
func attempt(do func()) (e api.Errno) {
	defer func() {
		gone := recover()
		if gone == nil {
			return
		}
		e = api.ErrForm
		var code api.Errno
		if err, ok := gone.(error); ok && errors.As(err, &code) {
			e = code
		}
	}()
	do()
	return api.OK
}

// giveUp ends the attempt. Where it came from is how many bytes were written, or were left to be read.
func (t *tape) giveUp(code api.Errno) {
	panic(fault.New(code, len(t.bytes), 0))
}

// each goes through how many things a list has, at most most, and by one through each of them.
func each[E any](t *tape, list *[]E, most int, one func(*E)) {
	n := uint64(len(*list))
	if !t.reading && n > uint64(most) {
		t.giveUp(api.ErrLong)
	}
	t.number64(&n)
	if n > uint64(most) {
		t.giveUp(api.ErrForm)
	}
	if t.reading && n > 0 {
		*list = make([]E, n)
	}
	for i := range *list {
		one(&(*list)[i])
	}
}

// octet goes through a byte.
func (t *tape) octet(b *byte) {
	if !t.reading {
		t.bytes = append(t.bytes, *b)
		return
	}
	if len(t.bytes) == 0 {
		t.giveUp(api.ErrForm)
	}
	*b = t.bytes[0]
	t.skip(1, api.OK)
}

// flag goes through a byte that is 01 or 00.
func (t *tape) flag(is *bool) {
	var b byte
	if *is {
		b = 1
	}
	t.octet(&b)
	if b > 1 {
		t.giveUp(api.ErrForm)
	}
	if t.reading {
		*is = b == 1
	}
}

// number64 goes through a rank.Uint.
func (t *tape) number64(n *uint64) {
	if !t.reading {
		t.bytes = append(t.bytes, rank.Uint(*n)...)
		return
	}
	got, k, e := rank.ReadUint(t.bytes)
	t.skip(k, e)
	*n = got
}

// number32 goes through a rank.Uint of 32 bits.
func (t *tape) number32(n *uint32) {
	wide := uint64(*n)
	t.number64(&wide)
	if wide > math.MaxUint32 {
		t.giveUp(api.ErrForm)
	}
	if t.reading {
		*n = uint32(wide)
	}
}

// signed64 goes through a rank.Int.
func (t *tape) signed64(n *int64) {
	if !t.reading {
		t.bytes = append(t.bytes, rank.Int(*n)...)
		return
	}
	got, k, e := rank.ReadInt(t.bytes)
	t.skip(k, e)
	*n = got
}

// signed goes through a rank.Int that an int has room for.
func (t *tape) signed(n *int) {
	wide := int64(*n)
	t.signed64(&wide)
	if wide < math.MinInt || wide > math.MaxInt {
		t.giveUp(api.ErrForm)
	}
	if t.reading {
		*n = int(wide)
	}
}

// text goes through a rank.Text of as many bytes as a value has at most.
func (t *tape) text(s *string) {
	if !t.reading {
		t.bytes = append(t.bytes, rank.Text([]byte(*s))...)
		return
	}
	got, k, e := rank.ReadText(t.bytes, api.MaxTextLen)
	t.skip(k, e)
	*s = string(got)
}

// skip goes behind the k bytes that were read, if they could be.
func (t *tape) skip(k int, e api.Errno) {
	if e != api.OK {
		t.giveUp(e)
	}
	t.bytes = t.bytes[k:]
}
