package sum_test

import (
	"bytes"
	"hash/crc32"
	"math"
	"math/rand"
	"testing"

	"farebox/api"
	"farebox/sum"
)

const full = 1<<32 - 1

var (
	sums   = []int{0, 1, 2, 7, 255, 256, 1<<31 - 1, 1 << 31, 2197175160, full - 1, full}
	noSums = []int{-1, -2, full + 1, full + 2, 1 << 33, -full, -full - 1, math.MinInt, math.MaxInt}
)

// turn is the chapter's word, told as it stands there.
func turn(n int) int {
	if n%2 == 1 {
		return n/2 ^ 2197175160
	}
	return n / 2
}

func turnBytes(n, times int) int {
	for range 8 * times {
		n = turn(n)
	}
	return n
}

// slowMore is P2.1, told as it stands there.
func slowMore(s int, b []byte) int {
	n := s ^ full
	for _, c := range b {
		n = turnBytes(n^int(c), 1)
	}
	return n ^ full
}

func someBytes(rnd *rand.Rand, size int) []byte {
	b := make([]byte, size)
	rnd.Read(b)
	return b
}

func someSum(rnd *rand.Rand) int { return int(rnd.Uint32()) }

func wantMore(t *testing.T, s int, b []byte, want int) {
	t.Helper()
	if n, e := sum.More(s, b); n != want || e != api.OK {
		t.Errorf("More(%d, %d bytes): %d, %d, not %d", s, len(b), n, e, want)
	}
}

func wantJoin(t *testing.T, x, y, n, want int) {
	t.Helper()
	if s, e := sum.Join(x, y, n); s != want || e != api.OK {
		t.Errorf("Join(%d, %d, %d): %d, %d, not %d", x, y, n, s, e, want)
	}
}

// P2.1: the chapter's examples.
func TestSumOfKnownBytes(t *testing.T) {
	for s, want := range map[string]int{"": 0, "a": 3251651376, "123456789": 3808858755} {
		if n := sum.Sum([]byte(s)); n != want {
			t.Errorf("Sum(%q): %d, not %d", s, n, want)
		}
	}
	if n := sum.Sum(nil); n != 0 {
		t.Errorf("Sum(nil): %d", n)
	}
}

// P2.1: every byte alone, behind every sum at an edge; no bytes leave a sum as it is.
func TestMoreAtEdges(t *testing.T) {
	for _, s := range sums {
		wantMore(t, s, nil, s)
		wantMore(t, s, []byte{}, s)
		for c := range 256 {
			b := []byte{byte(c)}
			wantMore(t, s, b, slowMore(s, b))
		}
	}
}

// P2.1: any bytes behind any sum; Sum is More behind 0. The library's sum of the same kind is a second opinion.
func TestMoreOfSomeBytes(t *testing.T) {
	rnd := rand.New(rand.NewSource(21))
	for range 500 {
		s, b := someSum(rnd), someBytes(rnd, rnd.Intn(100))
		wantMore(t, s, b, slowMore(s, b))
		n := sum.Sum(b)
		wantMore(t, 0, b, n)
		if want := int(crc32.Checksum(b, crc32.MakeTable(crc32.Castagnoli))); n != want {
			t.Errorf("Sum(%v): %d, not %d", b, n, want)
		}
	}
}

// P2.1: what is no sum is refused, with bytes and without, and nothing is told beside (W3).
func TestMoreOfNoSum(t *testing.T) {
	for _, s := range noSums {
		for _, b := range [][]byte{nil, {}, {0}, []byte("123456789")} {
			if n, e := sum.More(s, b); n != 0 || e != api.ErrArg {
				t.Errorf("More(%d, %v): %d, %d", s, b, n, e)
			}
		}
	}
}

// P2.1: many bytes.
func TestSumOfManyBytes(t *testing.T) {
	b := someBytes(rand.New(rand.NewSource(22)), 1<<20)
	if n, want := sum.Sum(b), int(crc32.Checksum(b, crc32.MakeTable(crc32.Castagnoli))); n != want {
		t.Errorf("Sum: %d, not %d", n, want)
	}
}

// P2.2: the chapter's examples; sums at their edges, and few bytes.
func TestJoinAtEdges(t *testing.T) {
	wantJoin(t, 7, 0, 0, 7)
	for _, x := range sums {
		for _, y := range sums {
			for n := range 12 {
				wantJoin(t, x, y, n, turnBytes(x, n)^y)
			}
		}
	}
}

// P2.2: each bit is turned as it should be.
func TestJoinOfEachBit(t *testing.T) {
	for bit := range 32 {
		for _, n := range []int{0, 1, 2, 3, 4, 5, 31, 32, 33, 255, 256, 1000} {
			wantJoin(t, 1<<bit, 0, n, turnBytes(1<<bit, n))
			wantJoin(t, 0, 1<<bit, n, 1<<bit)
		}
	}
}

// P2.2: the turns of x come round behind 2^31 - 1 of them, so those of the greatest numbers of bytes are those of small ones.
func TestJoinOfManyBytes(t *testing.T) {
	const round = 1<<31 - 1
	rnd := rand.New(rand.NewSource(23))
	for range 50 {
		x, y, few := someSum(rnd), someSum(rnd), rnd.Intn(100)
		want := turnBytes(x, few) ^ y
		for _, n := range []int{few + round, few + 2*round, few + rnd.Intn(1<<31)*round, few + (math.MaxInt/round-1)*round} {
			wantJoin(t, x, y, n, want)
		}
		wantJoin(t, x, y, math.MaxInt, turnBytes(x, math.MaxInt%round)^y)
		wantJoin(t, x, y, math.MaxInt-1, turnBytes(x, (math.MaxInt-1)%round)^y)
	}
}

// P2.2: what is no sum, or no number of bytes, is refused, one alone and several, and nothing is told beside (W3).
func TestJoinOfWrongArguments(t *testing.T) {
	refused := func(x, y, n int) {
		t.Helper()
		if s, e := sum.Join(x, y, n); s != 0 || e != api.ErrArg {
			t.Errorf("Join(%d, %d, %d): %d, %d", x, y, n, s, e)
		}
	}
	for _, no := range noSums {
		for _, n := range []int{-1, 0, 1, 5, math.MaxInt} {
			refused(no, no, n)
			for _, s := range sums {
				refused(no, s, n)
				refused(s, no, n)
			}
		}
	}
	for _, n := range []int{-1, -2, -8, math.MinInt, math.MinInt + 1} {
		for _, s := range sums {
			refused(s, 0, n)
			refused(0, s, n)
		}
	}
}

// P2.5: bytes behind bytes, by both ways.
func TestSumOfTwoParts(t *testing.T) {
	rnd := rand.New(rand.NewSource(25))
	for range 500 {
		whole := someBytes(rnd, rnd.Intn(200))
		cut := rnd.Intn(len(whole) + 1)
		a, b := whole[:cut], whole[cut:]
		want := sum.Sum(whole)
		wantMore(t, sum.Sum(a), b, want)
		wantJoin(t, sum.Sum(a), sum.Sum(b), len(b), want)
	}
	wantMore(t, sum.Sum([]byte("1234")), []byte("56789"), 3808858755)
	wantJoin(t, sum.Sum([]byte("1234")), sum.Sum([]byte("56789")), 5, 3808858755)
}

// P2.5: it holds for three parts as well, however they are put together.
func TestSumOfThreeParts(t *testing.T) {
	rnd := rand.New(rand.NewSource(26))
	for range 200 {
		a, b, c := someBytes(rnd, rnd.Intn(40)), someBytes(rnd, rnd.Intn(40)), someBytes(rnd, rnd.Intn(40))
		x, y, z := sum.Sum(a), sum.Sum(b), sum.Sum(c)
		want := sum.Sum(bytes.Join([][]byte{a, b, c}, nil))
		xy, _ := sum.Join(x, y, len(b))
		yz, _ := sum.Join(y, z, len(c))
		wantJoin(t, xy, z, len(c), want)
		wantJoin(t, x, yz, len(b)+len(c), want)
	}
}
