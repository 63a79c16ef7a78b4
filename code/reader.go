package code

import (
	"strings"

	"confluence/api"
)

// Where a number that is read would be too great: which byte is the last that may be, counted from 1, and how great it may be.
const (
	varBytes = 9
	varTop   = 127
	intBytes = 10
	intTop   = 1
)

// Reader reads bytes; what is wrong is told at the end.
type Reader struct {
	rest  string
	taken int
	wrong error
}

// NewReader makes one.
func NewReader(s string) *Reader { return &Reader{rest: s} }

// Byte reads one.
func (r *Reader) Byte() int {
	if r.wrong != nil {
		return 0
	}
	if r.rest == "" {
		r.fail(api.ErrCodeShort)
		return 0
	}
	b := r.rest[0]
	r.skip(1)
	return int(b)
}

// Var reads a number.
func (r *Reader) Var() int { return int(r.number(varBytes, varTop)) }

// Int reads one that may be below 0.
func (r *Reader) Int() int { return unfold(r.number(intBytes, intTop)) }

// Text reads a text of at most so many bytes.
func (r *Reader) Text(most int) string {
	if r.wrong != nil {
		return ""
	}
	if most < 0 {
		r.fail(api.ErrArg)
		return ""
	}
	// The length is not taken on its own: what is wrong behind it must leave it where it is.
	u, size, e := digits(r.rest, varBytes, varTop)
	n := int(u)
	switch {
	case e != api.OK:
		r.fail(e)
	case n > most:
		r.fail(api.ErrCodeLong)
	case n > len(r.rest)-size:
		r.fail(api.ErrCodeShort)
	default:
		r.skip(size)
		return r.take(n)
	}
	return ""
}

// Raw reads n bytes.
func (r *Reader) Raw(n int) string {
	switch {
	case r.wrong != nil:
		return ""
	case n < 0:
		r.fail(api.ErrArg)
		return ""
	case n > len(r.rest):
		r.fail(api.ErrCodeShort)
		return ""
	}
	return r.take(n)
}

// Left tells how many bytes are left.
func (r *Reader) Left() int { return len(r.rest) }

// Done tells what was wrong first, and where; also that bytes are left.
func (r *Reader) Done() (api.Errno, int) {
	if e := codeOf(r.wrong); e != api.OK {
		return e, r.taken
	}
	if r.rest != "" {
		return api.ErrCodeMore, r.taken
	}
	return api.OK, r.taken
}

func (r *Reader) number(last, top int) uint64 {
	if r.wrong != nil {
		return 0
	}
	n, size, e := digits(r.rest, last, top)
	if e != api.OK {
		r.fail(e)
		return 0
	}
	r.skip(size)
	return n
}

// take copies, so that a short text does not hold the long one that it stood in.
func (r *Reader) take(n int) string {
	s := strings.Clone(r.rest[:n])
	r.skip(n)
	return s
}

func (r *Reader) skip(n int) {
	r.rest = r.rest[n:]
	r.taken += n
}

// fail is called only while nothing was wrong; from then on no byte is taken, so taken stays where the fault was.
func (r *Reader) fail(e api.Errno) { r.wrong = fault{e} }

// digits is the number whose digits s begins with, and how many bytes they have. The byte last (from 1 on) may be at most top, which is below digitMore: so no number goes on behind it.
func digits(s string, last, top int) (uint64, int, api.Errno) {
	var n uint64
	for i := range len(s) {
		b := s[i]
		if i+1 == last && int(b) > top {
			return 0, 0, api.ErrCodeRange
		}
		n |= uint64(b%digitBase) << (7 * i)
		if b >= digitMore {
			continue
		}
		if b == 0 && i > 0 {
			return 0, 0, api.ErrCodeForm
		}
		return n, i + 1, api.OK
	}
	return 0, 0, api.ErrCodeShort
}
