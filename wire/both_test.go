package wire_test

import (
	"bytes"
	"math"
	"math/rand"
	"testing"

	"farebox/api"
	"farebox/wire"
)

// pair is a piece that was put, and how it is taken again.
type pair struct {
	put  put
	take take
	want any
}

// somePair is any piece that may be.
func somePair(rnd *rand.Rand) pair {
	switch rnd.Intn(7) {
	case 0:
		size := 1 + rnd.Intn(8)
		n := int(rnd.Uint64()>>1) >> (63 - min(63, 8*size)) >> rnd.Intn(8)
		return pair{number(n, size), takeNumber(size), n}
	case 1:
		n := int(rnd.Uint64()) >> rnd.Intn(64)
		return pair{integer(n), takeInt(), n}
	case 2:
		x := someFloat(rnd)
		want := bits(x)
		if math.IsNaN(x) {
			want = 0x7ff8 << 48
		}
		return pair{float(x), takeFloat(), want}
	case 3:
		is := rnd.Intn(2) == 1
		return pair{truth(is), takeBool(), is}
	case 4:
		s := someText(rnd)
		return pair{text(s), takeText(len(s) + rnd.Intn(3)), s}
	case 5:
		s := someText(rnd)
		return pair{fixed(s, len(s)), takeFixed(len(s)), s}
	default:
		n := rnd.Intn(65536)
		return pair{count(n), takeCount(n + rnd.Intn(3)), n}
	}
}

func someFloat(rnd *rand.Rand) float64 {
	special := []float64{0, math.Copysign(0, -1), math.Inf(1), math.Inf(-1), math.NaN(), math.Float64frombits(1<<64 - 1), 0.1, -1}
	if i := rnd.Intn(2 * len(special)); i < len(special) {
		return special[i]
	}
	return math.Float64frombits(rnd.Uint64())
}

func someText(rnd *rand.Rand) string {
	b := make([]byte, rnd.Intn(20))
	if rnd.Intn(50) == 0 {
		b = make([]byte, 65535-rnd.Intn(3))
	}
	rnd.Read(b)
	return string(b)
}

func somePairs(rnd *rand.Rand) []pair {
	l := make([]pair, rnd.Intn(12))
	for i := range l {
		l[i] = somePair(rnd)
	}
	return l
}

func bytesOf(t *testing.T, l []pair) []byte {
	t.Helper()
	var calls []func(w *wire.Writer)
	for _, x := range l {
		calls = append(calls, x.put.call)
	}
	return written(t, calls...)
}

// P1.8: what was put is taken, piece by piece, up to the end.
func TestPutIsTaken(t *testing.T) {
	rnd := rand.New(rand.NewSource(1))
	for round := range 2000 {
		l := somePairs(rnd)
		r := wire.NewReader(bytesOf(t, l))
		for i, x := range l {
			if got := x.take.call(r); got != x.want {
				t.Fatalf("%d: %s, the piece %d: another one", round, x.take.name, i)
			}
		}
		if f := r.End(); f != (api.Fault{}) {
			t.Fatalf("%d: %v", round, f)
		}
	}
}

// again takes a piece of the kind that how says, and puts what it took.
func again(r *wire.Reader, w *wire.Writer, how byte) {
	size := int(how) / 7 % 9
	switch how % 7 {
	case 0:
		if n := r.Number(size); r.Fault().Code == api.OK {
			w.Number(n, size)
		}
	case 1:
		w.Int(r.Int())
	case 2:
		w.Float(r.Float())
	case 3:
		w.Bool(r.Bool())
	case 4:
		w.Text(r.Text(300 * size))
	case 5:
		w.Fixed(r.Fixed(size), size)
	default:
		w.Count(r.Count(300 * size))
	}
}

// taken is the other half of P1.8 on any bytes, taken in any way: what was taken without a fault is put as it stood.
func taken(t *testing.T, how, b []byte) bool {
	t.Helper()
	r, w := wire.NewReader(b), wire.NewWriter()
	for _, h := range how {
		again(r, w, h)
		if r.At()+r.Left() != len(b) {
			t.Fatalf("%v, %v: at %d, %d left", how, b, r.At(), r.Left())
		}
	}
	if r.End().Code != api.OK {
		return false
	}
	if got, e := w.Bytes(); e != api.OK || !bytes.Equal(got, b) {
		t.Fatalf("%v, %v: put as %v, %d", how, b, got, e)
	}
	return true
}

// P1.8: all bytes, one or two of them, taken as each kind of piece, with the sizes 0 to 2.
func TestTakenIsPutShort(t *testing.T) {
	for how := range 3 * 7 {
		for n := range 65536 {
			taken(t, []byte{byte(how)}, []byte{byte(n >> 8), byte(n)})
		}
		for n := range 256 {
			taken(t, []byte{byte(how)}, []byte{byte(n)})
		}
	}
}

// P1.8: wide pieces around the edges of their forms.
func TestTakenIsPutWide(t *testing.T) {
	edges := []byte{0, 1, 127, 128, 239, 240, 247, 248, 255}
	whole := 0
	for _, a := range edges {
		for _, b := range edges {
			for _, last := range edges {
				wide := []byte{a, b, 0, 0, 0, 0, 0, last}
				for _, how := range []byte{1, 2, 7 * 8} {
					if taken(t, []byte{how}, wide) {
						whole++
					}
				}
			}
		}
	}
	if whole < 1000 {
		t.Errorf("only %d were taken whole", whole)
	}
}

// P1.8: rows of pieces with a byte changed now and then.
func TestTakenIsPutSpoilt(t *testing.T) {
	rnd := rand.New(rand.NewSource(2))
	whole := 0
	for range 30000 {
		how, w := make([]byte, 1+rnd.Intn(3)), wire.NewWriter()
		for i := range how {
			how[i] = byte(rnd.Intn(63))
			again(wire.NewReader(make([]byte, 8)), w, how[i])
		}
		b, _ := w.Bytes()
		if len(b) > 0 {
			b[rnd.Intn(len(b))] = byte(rnd.Intn(5))
		}
		if taken(t, how, b) {
			whole++
		}
	}
	if whole < 1000 {
		t.Errorf("only %d were taken whole", whole)
	}
}

// P1.9: the bytes of some pieces and of others, one behind the other, are those of all.
func TestBytesBehindBytes(t *testing.T) {
	rnd := rand.New(rand.NewSource(3))
	for round := range 2000 {
		l, more := somePairs(rnd), somePairs(rnd)
		all := bytesOf(t, append(append([]pair{}, l...), more...))
		if !bytes.Equal(all, append(bytesOf(t, l), bytesOf(t, more)...)) {
			t.Fatalf("%d: others", round)
		}
	}
}

func FuzzTaken(f *testing.F) {
	f.Add([]byte{1, 2, 3}, []byte{127, 248, 0, 0, 0, 0, 0, 1})
	f.Add([]byte{11, 12, 13}, []byte{0, 2, 97, 98, 1, 0, 0})
	f.Add([]byte{56}, []byte{255, 255, 255, 255, 255, 255, 255, 255})
	f.Fuzz(func(t *testing.T, how, b []byte) { taken(t, how, b) })
}
