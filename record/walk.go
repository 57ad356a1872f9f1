package record

import (
	"farebox/api"
	"farebox/wire"
)

// walk goes over the pieces of a record, one behind another. It puts them, if it has a writer, else it takes them: so the form of a record stands in one place for both ways, and neither can differ from the other.
type walk struct {
	to   *wire.Writer
	from *wire.Reader
}

// written is a record as bytes. What may be fits into its pieces, so a writer has nothing to refuse then.
func written[T any](x T, pieces func(walk, *T), wrong func(T) api.Errno) ([]byte, api.Errno) {
	if e := wrong(x); e != api.OK {
		return nil, e
	}
	w := walk{to: wire.NewWriter()}
	pieces(w, &x)
	return w.to.Bytes()
}

// taken is the way back.
func taken[T any](b []byte, pieces func(walk, *T), wrong func(T) api.Errno) (T, api.Fault) {
	var x, none T
	w := walk{from: wire.NewReader(b)}
	pieces(w, &x)
	if f := w.from.End(); f.Code != api.OK {
		return none, f
	}
	if e := wrong(x); e != api.OK {
		return none, api.Fault{Code: e, At: -1}
	}
	return x, api.Fault{}
}

// piece is one whose bytes are always as many.
func piece[T any](w walk, x *T, put func(*wire.Writer, T), take func(*wire.Reader) T) {
	if w.to != nil {
		put(w.to, *x)
		return
	}
	*x = take(w.from)
}

// sized is one of so many bytes.
func sized[T any](w walk, x *T, size int, put func(*wire.Writer, T, int), take func(*wire.Reader, int) T) {
	if w.to != nil {
		put(w.to, *x, size)
		return
	}
	*x = take(w.from, size)
}

// list is how many elements there are, then these. A copy of each is gone over, so that nothing that was handed in can change.
func list[T any](w walk, l *[]T, most int, element func(walk, *T)) {
	if w.to != nil {
		w.to.Count(len(*l))
		for _, x := range *l {
			element(w, &x)
		}
		return
	}
	for range w.from.Count(most) {
		var x T
		element(w, &x)
		*l = append(*l, x)
	}
}

// numbers are some of the same size, one behind another.
func (w walk) numbers(size int, l ...*int) {
	for _, n := range l {
		sized(w, n, size, (*wire.Writer).Number, (*wire.Reader).Number)
	}
}

func (w walk) token(s *string) {
	sized(w, s, api.TokenSize, (*wire.Writer).Fixed, (*wire.Reader).Fixed)
}

func (w walk) amount(n *int) { piece(w, n, (*wire.Writer).Int, (*wire.Reader).Int) }

func (w walk) rate(x *float64) { piece(w, x, (*wire.Writer).Float, (*wire.Reader).Float) }

func (w walk) truth(is *bool) { piece(w, is, (*wire.Writer).Bool, (*wire.Reader).Bool) }
