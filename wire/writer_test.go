package wire_test

import (
	"bytes"
	"math"
	"strings"
	"testing"

	"farebox/api"
	"farebox/wire"
)

// put is a call on a writer, with a name to tell it by.
type put struct {
	name string
	call func(w *wire.Writer)
}

// written are the bytes of calls, none of which is wrong.
func written(t *testing.T, calls ...func(w *wire.Writer)) []byte {
	t.Helper()
	w := wire.NewWriter()
	for _, call := range calls {
		call(w)
	}
	b, e := w.Bytes()
	if e != api.OK {
		t.Fatalf("error %d", e)
	}
	return b
}

func number(n, size int) put {
	return put{"Number", func(w *wire.Writer) { w.Number(n, size) }}
}

func integer(n int) put { return put{"Int", func(w *wire.Writer) { w.Int(n) }} }

func float(x float64) put { return put{"Float", func(w *wire.Writer) { w.Float(x) }} }

func truth(is bool) put { return put{"Bool", func(w *wire.Writer) { w.Bool(is) }} }

func text(s string) put { return put{"Text", func(w *wire.Writer) { w.Text(s) }} }

func fixed(s string, size int) put {
	return put{"Fixed", func(w *wire.Writer) { w.Fixed(s, size) }}
}

func count(n int) put { return put{"Count", func(w *wire.Writer) { w.Count(n) }} }

var longText = strings.Repeat("ab\x00\xff\xc3", 65535/5)

// P1.1, P1.2, W9: each kind of piece, ordinary ones and those at the edges of what may be.
func TestPiecesAsBytes(t *testing.T) {
	for i, x := range []struct {
		put  put
		want []byte
	}{
		{number(0, 1), []byte{0}},
		{number(255, 1), []byte{255}},
		{number(258, 2), []byte{1, 2}},
		{number(65535, 2), []byte{255, 255}},
		{number(1<<24-1, 3), []byte{255, 255, 255}},
		{number(0x01020304, 4), []byte{1, 2, 3, 4}},
		{number(1<<40-1, 5), []byte{255, 255, 255, 255, 255}},
		{number(5, 6), []byte{0, 0, 0, 0, 0, 5}},
		{number(1<<56-1, 7), []byte{255, 255, 255, 255, 255, 255, 255}},
		{number(0, 8), []byte{0, 0, 0, 0, 0, 0, 0, 0}},
		{number(0x0102030405060708, 8), []byte{1, 2, 3, 4, 5, 6, 7, 8}},
		{number(math.MaxInt64, 8), []byte{127, 255, 255, 255, 255, 255, 255, 255}},
		{integer(0), []byte{0, 0, 0, 0, 0, 0, 0, 0}},
		{integer(258), []byte{0, 0, 0, 0, 0, 0, 1, 2}},
		{integer(-1), []byte{255, 255, 255, 255, 255, 255, 255, 255}},
		{integer(-2), []byte{255, 255, 255, 255, 255, 255, 255, 254}},
		{integer(math.MaxInt64), []byte{127, 255, 255, 255, 255, 255, 255, 255}},
		{integer(math.MinInt64), []byte{128, 0, 0, 0, 0, 0, 0, 0}},
		{float(0), []byte{0, 0, 0, 0, 0, 0, 0, 0}},
		{float(1), []byte{63, 240, 0, 0, 0, 0, 0, 0}},
		{float(math.Copysign(0, -1)), []byte{128, 0, 0, 0, 0, 0, 0, 0}},
		{float(math.Inf(1)), []byte{127, 240, 0, 0, 0, 0, 0, 0}},
		{float(math.Inf(-1)), []byte{255, 240, 0, 0, 0, 0, 0, 0}},
		{float(math.SmallestNonzeroFloat64), []byte{0, 0, 0, 0, 0, 0, 0, 1}},
		{float(math.MaxFloat64), []byte{127, 239, 255, 255, 255, 255, 255, 255}},
		{truth(false), []byte{0}},
		{truth(true), []byte{1}},
		{text(""), []byte{0, 0}},
		{text("ab"), []byte{0, 2, 97, 98}},
		{text("\x00\xff\xc3"), []byte{0, 3, 0, 255, 195}},
		{text(longText), append([]byte{255, 255}, longText...)},
		{fixed("", 0), nil},
		{fixed("ab", 2), []byte{97, 98}},
		{fixed("\x00\xff\xc3", 3), []byte{0, 255, 195}},
		{fixed(longText, 65535), []byte(longText)},
		{count(0), []byte{0, 0}},
		{count(3), []byte{0, 3}},
		{count(65535), []byte{255, 255}},
	} {
		if b := written(t, x.put.call); !bytes.Equal(b, x.want) {
			t.Errorf("%d, %s: %v, not %v", i, x.put.name, b, x.want)
		}
	}
}

// P1.1, W9: a NaN has one form, whichever it is.
func TestEveryNaNIsOne(t *testing.T) {
	want := []byte{127, 248, 0, 0, 0, 0, 0, 0}
	for _, bits := range []uint64{0x7ff8 << 48, 0x7ff8<<48 | 1, 0xfff8 << 48, 0x7ff0<<48 | 1, 0xfff0<<48 | 1, 1<<64 - 1, 1<<63 - 1} {
		if b := written(t, float(math.Float64frombits(bits)).call); !bytes.Equal(b, want) {
			t.Errorf("%x: %v", bits, b)
		}
	}
	if b := written(t, float(math.NaN()).call); !bytes.Equal(b, want) {
		t.Errorf("%v", b)
	}
}

// wrongPuts are calls of which none may be.
func wrongPuts() []put {
	l := []put{
		number(0, 0), number(1, 0), number(0, -1), number(0, 9), number(1, 9), number(0, 64),
		number(0, math.MinInt64), number(0, math.MaxInt64), number(-1, math.MinInt64),
		text(longText + "a"), text(longText + longText),
		fixed("", -1), fixed("", 1), fixed("a", 0), fixed("ab", 3), fixed("ab", 1), fixed("a", -1),
		fixed(longText+"a", 65536), fixed(longText+"a", 65535), fixed(longText, 65536),
		fixed("", math.MinInt64), fixed("", math.MaxInt64),
		count(-1), count(65536), count(math.MinInt64), count(math.MaxInt64),
	}
	for size := 1; size <= 8; size++ {
		l = append(l, number(-1, size), number(math.MinInt64, size))
		if size < 8 {
			l = append(l, number(1<<(8*size), size), number(math.MaxInt64, size))
		}
	}
	return l
}

// P1.1, P1.2, W3: a piece that may not be is told, alone, behind and ahead of others, and for ever.
func TestWrongPieces(t *testing.T) {
	for i, x := range wrongPuts() {
		for _, ahead := range []func(w *wire.Writer){func(w *wire.Writer) {}, text("abc").call} {
			for _, behind := range []func(w *wire.Writer){func(w *wire.Writer) {}, truth(true).call, count(-1).call} {
				w := wire.NewWriter()
				ahead(w)
				x.call(w)
				if b, e := w.Bytes(); e != api.ErrArg || len(b) != 0 {
					t.Errorf("%d, %s: %v, %d", i, x.name, b, e)
				}
				behind(w)
				if b, e := w.Bytes(); e != api.ErrArg || len(b) != 0 {
					t.Errorf("%d, %s: with more behind it %v, %d", i, x.name, b, e)
				}
			}
		}
	}
}

// P1.1: behind the first wrong piece each kind of call is let go without a word.
func TestNothingBehindWrong(t *testing.T) {
	w := wire.NewWriter()
	w.Bool(true)
	w.Number(256, 1)
	for _, x := range []put{number(1, 1), integer(1), float(1), truth(true), text("a"), fixed("a", 1), count(1)} {
		x.call(w)
		if b, e := w.Bytes(); e != api.ErrArg || len(b) != 0 {
			t.Errorf("%s: %v, %d", x.name, b, e)
		}
	}
}

// P1.2: a writer without pieces, and one that is asked several times.
func TestBytesAtAnyTime(t *testing.T) {
	w := wire.NewWriter()
	if b, e := w.Bytes(); e != api.OK || len(b) != 0 {
		t.Errorf("%v, %d", b, e)
	}
	w.Number(258, 2)
	w.Bool(true)
	for range 2 {
		if b, e := w.Bytes(); e != api.OK || !bytes.Equal(b, []byte{1, 2, 1}) {
			t.Errorf("%v, %d", b, e)
		}
	}
	w.Text("ab")
	w.Count(3)
	if b, e := w.Bytes(); e != api.OK || !bytes.Equal(b, []byte{1, 2, 1, 0, 2, 97, 98, 0, 3}) {
		t.Errorf("%v, %d", b, e)
	}
	w.Count(-1)
	if b, e := w.Bytes(); e != api.ErrArg || len(b) != 0 {
		t.Errorf("%v, %d", b, e)
	}
}

// P1.7, W6: what Bytes answers, and its spare room, is nobody else's.
func TestBytesAreNew(t *testing.T) {
	w := wire.NewWriter()
	for range 5 {
		w.Number(7, 1)
	}
	first, _ := w.Bytes()
	second, _ := w.Bytes()
	scribble(first)
	w.Number(8, 1)
	if want := []byte{7, 7, 7, 7, 7}; !bytes.Equal(second, want) {
		t.Errorf("the other answer: %v", second)
	}
	third, _ := w.Bytes()
	scribble(second)
	if want := []byte{7, 7, 7, 7, 7, 8}; !bytes.Equal(third, want) {
		t.Errorf("what is kept: %v", third)
	}
	if b := first[:cap(first)]; bytes.ContainsFunc(b, func(r rune) bool { return r != 'x' }) {
		t.Errorf("a later piece went into an answer: %v", b)
	}
}

// scribble changes all of a list, and its spare room.
func scribble(b []byte) {
	b = b[:cap(b)]
	for i := range b {
		b[i] = 'x'
	}
}
