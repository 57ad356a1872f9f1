package wire

import (
	"bytes"
	"math"

	"farebox/api"
)

// Writer puts pieces behind one another.
type Writer struct {
	pieces []byte
	wrong  bool
}

// NewWriter is one without pieces.
func NewWriter() *Writer { return &Writer{} }

// Number puts a number from 0 on in so many bytes.
func (w *Writer) Number(n, size int) {
	w.put(func() {
		must(size >= 1 && size <= wideSize, api.ErrArg)
		must(n >= 0 && (size == wideSize || n>>(8*size) == 0), api.ErrArg)
		w.digits(uint64(n), size)
	})
}

// Int puts any number in eight bytes.
func (w *Writer) Int(n int) {
	w.put(func() { w.digits(uint64(n), wideSize) })
}

// Float puts a float in eight bytes.
func (w *Writer) Float(x float64) {
	w.put(func() {
		bits := math.Float64bits(x)
		if math.IsNaN(x) {
			bits = oneNaN
		}
		w.digits(bits, wideSize)
	})
}

// Bool puts a truth in a byte.
func (w *Writer) Bool(is bool) {
	w.put(func() {
		if is {
			w.digits(1, truthSize)
		} else {
			w.digits(0, truthSize)
		}
	})
}

// Text puts a text with its length ahead.
func (w *Writer) Text(s string) {
	w.put(func() {
		must(len(s) <= mostCount, api.ErrArg)
		w.digits(uint64(len(s)), countSize)
		w.pieces = append(w.pieces, s...)
	})
}

// Fixed puts a text of just that length.
func (w *Writer) Fixed(s string, size int) {
	w.put(func() {
		must(size >= 0 && size <= mostCount && len(s) == size, api.ErrArg)
		w.pieces = append(w.pieces, s...)
	})
}

// Count puts how many there are of what follows.
func (w *Writer) Count(n int) {
	w.put(func() {
		must(n >= 0 && n <= mostCount, api.ErrArg)
		w.digits(uint64(n), countSize)
	})
}

// Bytes are all pieces; or the first error.
func (w *Writer) Bytes() ([]byte, api.Errno) {
	if w.wrong {
		return nil, api.ErrArg
	}
	return bytes.Clone(w.pieces), api.OK
}

// put is the edge of every call that puts a piece. The first one that is given up ends the writer: its pieces can't be asked for any more, so they go.
func (w *Writer) put(piece func()) {
	if w.wrong {
		return
	}
	defer func() {
		if recover() != nil {
			w.pieces, w.wrong = nil, true
		}
	}()
	piece()
}

// digits puts the lowest bytes of a number, the highest of them first.
func (w *Writer) digits(n uint64, size int) {
	for left := size - 1; left >= 0; left-- {
		w.pieces = append(w.pieces, byte(n>>(8*left)))
	}
}
