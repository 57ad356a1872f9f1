package wire_test

import (
	"bytes"
	"math"
	"testing"

	"farebox/api"
	"farebox/wire"
)

// take is a call on a reader, what it answers as a value to be compared.
type take struct {
	name string
	call func(r *wire.Reader) any
}

func takeNumber(size int) take {
	return take{"Number", func(r *wire.Reader) any { return r.Number(size) }}
}

// A float is compared by its bits: so a 0 below 0 is another one, and a NaN is itself.
func takeFloat() take {
	return take{"Float", func(r *wire.Reader) any { return math.Float64bits(r.Float()) }}
}

func takeInt() take { return take{"Int", func(r *wire.Reader) any { return r.Int() }} }

func takeBool() take { return take{"Bool", func(r *wire.Reader) any { return r.Bool() }} }

func takeText(most int) take {
	return take{"Text", func(r *wire.Reader) any { return r.Text(most) }}
}

func takeFixed(size int) take {
	return take{"Fixed", func(r *wire.Reader) any { return r.Fixed(size) }}
}

func takeCount(most int) take {
	return take{"Count", func(r *wire.Reader) any { return r.Count(most) }}
}

// nothing is what each kind of call answers behind a fault.
func nothing() map[string]any {
	return map[string]any{"Number": 0, "Int": 0, "Float": uint64(0), "Bool": false, "Text": "", "Fixed": "", "Count": 0}
}

// oneOfEach are calls that would all find something in a row of noughts.
func oneOfEach() []take {
	return []take{takeNumber(1), takeInt(), takeFloat(), takeBool(), takeText(9), takeFixed(1), takeCount(9)}
}

func bits(x float64) uint64 { return math.Float64bits(x) }

// P1.3, P1.6, W9: what each kind of piece is, ordinary ones and those at the edges, at the beginning and farther on.
func TestBytesAsPieces(t *testing.T) {
	long := append([]byte{255, 255}, longText...)
	for i, x := range []struct {
		take take
		b    []byte
		want any
	}{
		{takeNumber(1), []byte{0}, 0},
		{takeNumber(1), []byte{255}, 255},
		{takeNumber(2), []byte{1, 2}, 258},
		{takeNumber(3), []byte{1, 0, 2}, 65538},
		{takeNumber(4), []byte{255, 255, 255, 255}, 1<<32 - 1},
		{takeNumber(5), []byte{1, 2, 3, 4, 5}, 0x0102030405},
		{takeNumber(6), []byte{0, 0, 0, 0, 0, 5}, 5},
		{takeNumber(7), []byte{255, 255, 255, 255, 255, 255, 255}, 1<<56 - 1},
		{takeNumber(8), []byte{1, 2, 3, 4, 5, 6, 7, 8}, 0x0102030405060708},
		{takeNumber(8), []byte{127, 255, 255, 255, 255, 255, 255, 255}, math.MaxInt64},
		{takeInt(), []byte{0, 0, 0, 0, 0, 0, 1, 2}, 258},
		{takeInt(), []byte{255, 255, 255, 255, 255, 255, 255, 254}, -2},
		{takeInt(), []byte{127, 255, 255, 255, 255, 255, 255, 255}, math.MaxInt64},
		{takeInt(), []byte{128, 0, 0, 0, 0, 0, 0, 0}, math.MinInt64},
		{takeFloat(), []byte{63, 240, 0, 0, 0, 0, 0, 0}, bits(1)},
		{takeFloat(), []byte{0, 0, 0, 0, 0, 0, 0, 0}, bits(0)},
		{takeFloat(), []byte{128, 0, 0, 0, 0, 0, 0, 0}, bits(math.Copysign(0, -1))},
		{takeFloat(), []byte{127, 240, 0, 0, 0, 0, 0, 0}, bits(math.Inf(1))},
		{takeFloat(), []byte{255, 240, 0, 0, 0, 0, 0, 0}, bits(math.Inf(-1))},
		{takeFloat(), []byte{0, 0, 0, 0, 0, 0, 0, 1}, bits(math.SmallestNonzeroFloat64)},
		{takeFloat(), []byte{127, 239, 255, 255, 255, 255, 255, 255}, bits(math.MaxFloat64)},
		{takeFloat(), []byte{127, 248, 0, 0, 0, 0, 0, 0}, uint64(0x7ff8 << 48)},
		{takeBool(), []byte{0}, false},
		{takeBool(), []byte{1}, true},
		{takeText(0), []byte{0, 0}, ""},
		{takeText(2), []byte{0, 2, 97, 98}, "ab"},
		{takeText(math.MaxInt64), []byte{0, 3, 0, 255, 195}, "\x00\xff\xc3"},
		{takeText(65535), long, longText},
		{takeFixed(0), nil, ""},
		{takeFixed(2), []byte{97, 98}, "ab"},
		{takeFixed(3), []byte{0, 255, 195}, "\x00\xff\xc3"},
		{takeFixed(65535), []byte(longText), longText},
		{takeCount(0), []byte{0, 0}, 0},
		{takeCount(3), []byte{0, 3}, 3},
		{takeCount(65535), []byte{255, 255}, 65535},
		{takeCount(math.MaxInt64), []byte{1, 0}, 256},
	} {
		for ahead := range 3 {
			r := wire.NewReader(bytes.Join([][]byte{make([]byte, ahead), x.b, {9}}, nil))
			r.Fixed(ahead)
			if got := x.take.call(r); got != x.want {
				t.Errorf("%d, %s: another answer", i, x.take.name)
			}
			if f := r.Fault(); f != (api.Fault{}) || r.At() != ahead+len(x.b) || r.Left() != 1 {
				t.Errorf("%d, %s: %v, at %d, %d left", i, x.take.name, f, r.At(), r.Left())
			}
		}
	}
}

// faulty is a piece at fault, and the first of its faults.
type faulty struct {
	take take
	b    []byte
	want api.Errno
}

func faults() []faulty {
	return []faulty{
		// ErrArg is ahead of all others.
		{takeNumber(0), []byte{1}, api.ErrArg},
		{takeNumber(0), nil, api.ErrArg},
		{takeNumber(-1), []byte{1}, api.ErrArg},
		{takeNumber(9), make([]byte, 9), api.ErrArg},
		{takeNumber(9), nil, api.ErrArg},
		{takeNumber(math.MinInt64), nil, api.ErrArg},
		{takeNumber(math.MaxInt64), nil, api.ErrArg},
		{takeFixed(-1), []byte{1}, api.ErrArg},
		{takeFixed(65536), make([]byte, 65536), api.ErrArg},
		{takeFixed(65536), nil, api.ErrArg},
		{takeFixed(math.MinInt64), nil, api.ErrArg},
		{takeFixed(math.MaxInt64), nil, api.ErrArg},
		{takeText(-1), []byte{0, 0}, api.ErrArg},
		{takeText(-1), []byte{0}, api.ErrArg},
		{takeText(math.MinInt64), []byte{0, 9}, api.ErrArg},
		{takeCount(-1), []byte{0, 0}, api.ErrArg},
		{takeCount(math.MinInt64), nil, api.ErrArg},
		// One byte too few.
		{takeNumber(1), nil, api.ErrWireShort},
		{takeNumber(2), []byte{1}, api.ErrWireShort},
		{takeNumber(8), []byte{255, 255, 255, 255, 255, 255, 255}, api.ErrWireShort},
		{takeInt(), []byte{255, 255, 255, 255, 255, 255, 255}, api.ErrWireShort},
		{takeFloat(), []byte{127, 248, 0, 0, 0, 0, 1}, api.ErrWireShort},
		{takeBool(), nil, api.ErrWireShort},
		{takeFixed(1), nil, api.ErrWireShort},
		{takeFixed(65535), []byte(longText[1:]), api.ErrWireShort},
		{takeCount(0), []byte{9}, api.ErrWireShort},
		{takeText(0), []byte{9}, api.ErrWireShort},
		{takeText(0), nil, api.ErrWireShort},
		// Not in its form.
		{takeNumber(8), []byte{128, 0, 0, 0, 0, 0, 0, 0}, api.ErrWireForm},
		{takeNumber(8), []byte{255, 255, 255, 255, 255, 255, 255, 255}, api.ErrWireForm},
		{takeBool(), []byte{2}, api.ErrWireForm},
		{takeBool(), []byte{255}, api.ErrWireForm},
		{takeFloat(), []byte{127, 248, 0, 0, 0, 0, 0, 1}, api.ErrWireForm},
		{takeFloat(), []byte{255, 248, 0, 0, 0, 0, 0, 0}, api.ErrWireForm},
		{takeFloat(), []byte{127, 240, 0, 0, 0, 0, 0, 1}, api.ErrWireForm},
		{takeFloat(), []byte{255, 255, 255, 255, 255, 255, 255, 255}, api.ErrWireForm},
		// Above most, which is ahead of the text's own bytes.
		{takeText(0), []byte{0, 1, 97}, api.ErrWireLong},
		{takeText(2), []byte{0, 3, 97}, api.ErrWireLong},
		{takeText(2), []byte{0, 3, 97, 98, 99}, api.ErrWireLong},
		{takeText(65534), []byte{255, 255}, api.ErrWireLong},
		{takeCount(3), []byte{0, 4}, api.ErrWireLong},
		{takeCount(0), []byte{255, 255}, api.ErrWireLong},
		{takeText(3), []byte{0, 3, 97, 98}, api.ErrWireShort},
		{takeText(9), []byte{0, 3, 97}, api.ErrWireShort},
		{takeText(65535), []byte{255, 255}, api.ErrWireShort},
	}
}

// P1.3, W4, W8: the first of a piece's faults, at the place where it begins; At() stays there.
func TestFaults(t *testing.T) {
	for i, x := range faults() {
		for ahead := range 3 {
			r := wire.NewReader(append(make([]byte, ahead), x.b...))
			for range ahead {
				r.Number(1)
			}
			if got := x.take.call(r); got != nothing()[x.take.name] {
				t.Errorf("%d, %s: %v", i, x.take.name, got)
			}
			want := api.Fault{Code: x.want, At: ahead}
			if f := r.Fault(); f != want || r.At() != ahead || r.Left() != len(x.b) {
				t.Errorf("%d, %s: %v, not %v; at %d, %d left", i, x.take.name, f, want, r.At(), r.Left())
			}
		}
	}
}

// holds asks each call of a reader at fault, right and wrong ones: nothing is taken, and the fault stays.
func holds(t *testing.T, name string, r *wire.Reader, want api.Fault, at, left int) {
	t.Helper()
	for _, x := range append(oneOfEach(), takeNumber(0), takeText(-1), takeCount(-1), takeFixed(65536), takeFixed(0)) {
		if got := x.call(r); got != nothing()[x.name] {
			t.Errorf("%s: %s answers %v", name, x.name, got)
		}
		r.Fail(api.ErrTime)
		r.Fail(api.OK)
		if f, end := r.Fault(), r.End(); f != want || end != want {
			t.Errorf("%s: behind %s %v and %v, not %v", name, x.name, f, end, want)
		}
		if r.At() != at || r.Left() != left {
			t.Errorf("%s: behind %s at %d, %d left", name, x.name, r.At(), r.Left())
		}
	}
}

// P1.4: behind the first fault nothing is taken, however much stands there.
func TestFirstFaultHolds(t *testing.T) {
	for _, x := range faults() {
		r := wire.NewReader(append([]byte{1}, x.b...))
		r.Bool()
		x.take.call(r)
		holds(t, x.take.name, r, api.Fault{Code: x.want, At: 1}, 1, len(x.b))
	}
	r := wire.NewReader(append([]byte{1, 2}, bytes.Repeat([]byte{1}, 40)...))
	r.Bool()
	r.Bool()
	holds(t, "much behind it", r, api.Fault{Code: api.ErrWireForm, At: 1}, 1, 41)
}

// P1.4: no fault is OK at 0, ahead of pieces, between them and behind them.
func TestNoFault(t *testing.T) {
	r := wire.NewReader([]byte{7, 8})
	for range 3 {
		if f := r.Fault(); f != (api.Fault{}) {
			t.Errorf("%v", f)
		}
		if r.Left() > 0 {
			r.Number(1)
		}
	}
	if f := r.End(); f != (api.Fault{}) || r.Fault() != f || r.At() != 2 {
		t.Errorf("%v, at %d", f, r.At())
	}
}

// P1.5: Fail is told at the piece that was taken last, of whichever kind it was, and At() stays behind it.
func TestFailIsAtTheLastPiece(t *testing.T) {
	b := make([]byte, 50)
	for _, x := range append(oneOfEach(), takeFixed(0), takeFixed(3), takeNumber(8)) {
		r := wire.NewReader(b)
		r.Number(3)
		x.call(r)
		at := r.At()
		r.Fail(api.ErrRecord)
		want := api.Fault{Code: api.ErrRecord, At: 3}
		if f := r.Fault(); f != want || r.At() != at || r.Left() != 50-at {
			t.Errorf("%s: %v, at %d", x.name, f, r.At())
		}
		holds(t, x.name, r, want, at, 50-at)
	}
}

// P1.5: Fail ahead of any piece; Fail with OK; Fail ahead of a fault and behind one.
func TestFailAheadAndBehind(t *testing.T) {
	r := wire.NewReader([]byte{7, 8})
	r.Fail(api.ErrRecord)
	holds(t, "without a piece", r, api.Fault{Code: api.ErrRecord}, 0, 2)

	r = wire.NewReader(nil)
	r.Fail(api.ErrRecord)
	holds(t, "without bytes", r, api.Fault{Code: api.ErrRecord}, 0, 0)

	r = wire.NewReader([]byte{7, 8, 9, 10})
	r.Number(1)
	r.Number(1)
	r.Fail(api.OK)
	if f := r.Fault(); f != (api.Fault{}) || r.Number(1) != 9 {
		t.Errorf("Fail(OK) is %v", f)
	}
	r.Fail(-5)
	holds(t, "any number is one", r, api.Fault{Code: -5, At: 2}, 3, 1)

	r = wire.NewReader([]byte{7, 2})
	r.Number(1)
	r.Fail(api.ErrRecord)
	r.Bool()
	holds(t, "ahead of a fault", r, api.Fault{Code: api.ErrRecord, At: 0}, 1, 1)

	r = wire.NewReader([]byte{7, 2})
	r.Number(1)
	r.Bool()
	r.Fail(api.ErrRecord)
	holds(t, "behind a fault", r, api.Fault{Code: api.ErrWireForm, At: 1}, 1, 1)
}

// P1.6: At and Left go along with the pieces.
func TestAtAndLeft(t *testing.T) {
	r := wire.NewReader([]byte{1, 2, 1, 0, 2, 97, 98, 0, 3})
	at := []int{0}
	for _, x := range []take{takeNumber(2), takeBool(), takeText(5), takeFixed(0), takeCount(3)} {
		x.call(r)
		at = append(at, r.At())
		if r.At()+r.Left() != 9 {
			t.Errorf("%s: at %d, %d left", x.name, r.At(), r.Left())
		}
	}
	for i, want := range []int{0, 2, 3, 7, 7, 9} {
		if at[i] != want {
			t.Errorf("%d: at %d, not %d", i, at[i], want)
		}
	}
}

// P1.6: End with nothing left, with bytes left, which is a fault from then on, ahead of and behind others.
func TestEnd(t *testing.T) {
	r := wire.NewReader(nil)
	if f := r.End(); f != (api.Fault{}) || r.Fault() != f {
		t.Errorf("%v", f)
	}
	r = wire.NewReader([]byte{7})
	r.Number(1)
	if f := r.End(); f != (api.Fault{}) {
		t.Errorf("%v", f)
	}
	r.Fail(api.ErrRecord)
	holds(t, "Fail behind a good end", r, api.Fault{Code: api.ErrRecord, At: 0}, 1, 0)

	r = wire.NewReader([]byte{7, 8, 9})
	r.Number(1)
	if f := r.Fault(); f != (api.Fault{}) {
		t.Errorf("ahead of End: %v", f)
	}
	if f := r.End(); f != (api.Fault{Code: api.ErrWireMore, At: 1}) {
		t.Errorf("%v", f)
	}
	holds(t, "bytes left", r, api.Fault{Code: api.ErrWireMore, At: 1}, 1, 2)

	r = wire.NewReader([]byte{7, 8})
	if f := r.End(); f != (api.Fault{Code: api.ErrWireMore, At: 0}) {
		t.Errorf("%v", f)
	}
	holds(t, "nothing taken", r, api.Fault{Code: api.ErrWireMore, At: 0}, 0, 2)

	r = wire.NewReader([]byte{7, 8})
	r.Number(1)
	r.Fail(api.ErrRecord)
	if f := r.End(); f != (api.Fault{Code: api.ErrRecord, At: 0}) {
		t.Errorf("%v", f)
	}
}

// P1.7, W6: what a reader was given is its giver's, the spare room too.
func TestGivenBytesAreNotKept(t *testing.T) {
	room := []byte{0, 2, 97, 98, 99, 4, 5, 6}
	given := room[:5]
	r := wire.NewReader(given)
	s := r.Text(9)
	for i := range room {
		room[i] = 'x'
	}
	if last := r.Fixed(1); s != "ab" || last != "c" {
		t.Errorf("%q, %q", s, last)
	}
}

// P1.7, W6: nothing that a reader does changes what it was given.
func TestGivenBytesStay(t *testing.T) {
	room := bytes.Repeat([]byte{0, 1}, 40)
	kept := bytes.Clone(room)
	for _, x := range append(oneOfEach(), takeNumber(9), takeText(-1)) {
		r := wire.NewReader(room[:60])
		r.Bool()
		x.call(r)
		r.Fail(api.ErrRecord)
		r.End()
		if !bytes.Equal(room, kept) {
			t.Fatalf("%s: %v", x.name, room)
		}
	}
}
