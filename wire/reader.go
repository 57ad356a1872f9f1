package wire

import (
	"bytes"
	"math"

	"farebox/api"
)

// Reader takes pieces, one behind another.
type Reader struct {
	given []byte
	at    int // where the next piece begins
	last  int // where the piece began that was taken last
	fault api.Fault
}

// NewReader is one at the beginning of bytes. It has its own copy: whoever handed them in may change them.
func NewReader(b []byte) *Reader { return &Reader{given: bytes.Clone(b)} }

// Number takes one of so many bytes.
func (r *Reader) Number(size int) int {
	return take(r, func() int {
		must(size >= 1 && size <= wideSize, api.ErrArg)
		n := r.digits(size)
		must(n <= math.MaxInt64, api.ErrWireForm)
		return int(n)
	})
}

// Int takes any number.
func (r *Reader) Int() int {
	return take(r, func() int { return int(r.digits(wideSize)) })
}

// Float takes a float.
func (r *Reader) Float() float64 {
	return take(r, func() float64 {
		bits := r.digits(wideSize)
		x := math.Float64frombits(bits)
		must(!math.IsNaN(x) || bits == oneNaN, api.ErrWireForm)
		return x
	})
}

// Bool takes a truth.
func (r *Reader) Bool() bool {
	return take(r, func() bool {
		n := r.digits(truthSize)
		must(n <= 1, api.ErrWireForm)
		return n == 1
	})
}

// Text takes a text of at most so many bytes.
func (r *Reader) Text(most int) string {
	return take(r, func() string { return string(r.next(r.count(most))) })
}

// Fixed takes a text of just that length.
func (r *Reader) Fixed(size int) string {
	return take(r, func() string {
		must(size >= 0 && size <= mostCount, api.ErrArg)
		return string(r.next(size))
	})
}

// Count takes how many there are, at most so many.
func (r *Reader) Count(most int) int {
	return take(r, func() int { return r.count(most) })
}

// Fail makes what was taken last wrong, if nothing is yet.
func (r *Reader) Fail(e api.Errno) {
	if !r.failed() && e != api.OK {
		r.fault = api.Fault{Code: e, At: r.last}
	}
}

// At is where the next piece begins; Left, how many bytes there are from there on.
func (r *Reader) At() int { return r.at }

func (r *Reader) Left() int { return len(r.given) - r.at }

// Fault is the first thing wrong.
func (r *Reader) Fault() api.Fault { return r.fault }

// End is that, too; it is wrong, if bytes are left.
func (r *Reader) End() api.Fault {
	if !r.failed() && r.Left() > 0 {
		r.fault = api.Fault{Code: api.ErrWireMore, At: r.at}
	}
	return r.fault
}

func (r *Reader) failed() bool { return r.fault.Code != api.OK }

// take is the edge of every call that takes a piece: one that is given up within is as if nothing of it had been read, but for the fault.
func take[T any](r *Reader, piece func() T) (answer T) {
	if r.failed() {
		return answer
	}
	start := r.at
	defer func() {
		if e, is := recover().(api.Errno); is {
			r.at = start
			r.fault = api.Fault{Code: e, At: start}
		}
	}()
	answer = piece()
	r.last = start
	return answer
}

// next goes behind so many bytes. They are the reader's own: a copy is what may be answered.
func (r *Reader) next(size int) []byte {
	must(size <= r.Left(), api.ErrWireShort)
	from := r.at
	r.at += size
	return r.given[from:r.at]
}

// digits takes a number's bytes, the highest first.
func (r *Reader) digits(size int) uint64 {
	n := uint64(0)
	for _, b := range r.next(size) {
		n = n<<8 | uint64(b)
	}
	return n
}

// count takes what a Count is, and a Text has ahead of it.
func (r *Reader) count(most int) int {
	must(most >= 0, api.ErrArg)
	n := int(r.digits(countSize))
	must(n <= most, api.ErrWireLong)
	return n
}
