// Package wire is layer 1: see shared/doc/01-wire.md.
package wire

import (
	"engrosser/api"
)

// Pen writes octets.
type Pen struct {
	out []byte
	bad bool
}

// Eye reads octets.
type Eye struct {
	rest []byte // what has not been consumed
	err  api.Errno
}

// fresh copies b. The piece that append starts from has no capacity, so that
// append cannot write into b's memory and has to take new memory.
func fresh(b []byte) []byte {
	return append(b[:0:0], b...)
}

// New is a pen without octets.
func New() *Pen {
	return &Pen{}
}

// U8 writes a number in one octet.
func (p *Pen) U8(n int) { p.ranged(n, 1) }

// U16 writes a number in two octets.
func (p *Pen) U16(n int) { p.ranged(n, 2) }

// U32 writes a number in four octets.
func (p *Pen) U32(n int) { p.ranged(n, 4) }

// U64 writes a number in eight octets.
func (p *Pen) U64(n uint64) { p.number(n, 8) }

// Raw writes octets.
func (p *Pen) Raw(b []byte) {
	if !p.bad {
		p.out = append(p.out, b...)
	}
}

// Short writes a short text. If it is too long, its length makes the pen bad,
// and then Raw writes nothing either.
func (p *Pen) Short(b []byte) {
	p.U8(len(b))
	p.Raw(b)
}

// Long writes a long text. If it is too long, its length makes the pen bad,
// and then Raw writes nothing either.
func (p *Pen) Long(b []byte) {
	p.U16(len(b))
	p.Raw(b)
}

// Bytes are all octets.
func (p *Pen) Bytes() ([]byte, bool) {
	if p.bad {
		return nil, false
	}
	return fresh(p.out), true
}

// ranged writes n in size octets; a number that does not fit makes the pen bad.
func (p *Pen) ranged(n, size int) {
	if n < 0 || n>>(8*size) != 0 {
		p.bad = true
		return
	}
	p.number(uint64(n), size)
}

// number writes the lowest size octets of n, the most significant one first.
func (p *Pen) number(n uint64, size int) {
	if p.bad {
		return
	}
	for shift := 8 * (size - 1); shift >= 0; shift -= 8 {
		p.out = append(p.out, byte(n>>shift))
	}
}

// Open is an eye at the beginning of octets. It reads a copy, because the
// caller may change b between two reads.
func Open(b []byte) *Eye {
	return &Eye{rest: fresh(b)}
}

// Left is how many octets weren't passed.
func (e *Eye) Left() int {
	return len(e.rest)
}

// Err is the error.
func (e *Eye) Err() api.Errno {
	return e.err
}

// Fail lets something be the error, if there is none.
func (e *Eye) Fail(x api.Errno) {
	if e.err == api.OK {
		e.err = x
	}
}

// End is the error, also of octets that are left.
func (e *Eye) End() api.Errno {
	if e.err == api.OK && len(e.rest) > 0 {
		return api.ErrTrail
	}
	return e.err
}

// U8 reads a number of one octet.
func (e *Eye) U8() int { return int(e.number(1)) }

// U16 reads a number of two octets.
func (e *Eye) U16() int { return int(e.number(2)) }

// U32 reads a number of four octets.
func (e *Eye) U32() int { return int(e.number(4)) }

// U64 reads a number of eight octets.
func (e *Eye) U64() uint64 { return e.number(8) }

// Raw reads octets.
func (e *Eye) Raw(n int) []byte {
	return fresh(e.take(n))
}

// Short reads a short text.
func (e *Eye) Short(most int) []byte { return e.text(1, most) }

// Long reads a long text.
func (e *Eye) Long(most int) []byte { return e.text(2, most) }

// take consumes n octets. They are still the eye's own memory.
func (e *Eye) take(n int) []byte {
	if n < 0 {
		e.Fail(api.ErrArg)
	} else if n > len(e.rest) {
		e.Fail(api.ErrShort)
	}
	if e.err != api.OK {
		return nil
	}
	b := e.rest[:n]
	e.rest = e.rest[n:]
	return b
}

// number reads a number of size octets, the most significant one first.
func (e *Eye) number(size int) uint64 {
	n := uint64(0)
	for _, b := range e.take(size) {
		n = n<<8 | uint64(b)
	}
	return n
}

// text reads a text behind its length, which has size octets. A text that
// fails gives the length back, for a failed read consumes nothing.
func (e *Eye) text(size, most int) []byte {
	start := e.rest
	n := int(e.number(size))
	if n > most {
		e.Fail(api.ErrLong)
	}
	b := e.Raw(n)
	if e.err != api.OK {
		e.rest = start
	}
	return b
}
