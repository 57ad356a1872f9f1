package hash_test

import (
	"bytes"
	"crypto/sha256"
	"encoding/hex"
	"math/big"
	"math/rand"
	"strings"
	"sync"
	"testing"

	"farebox/hash"
)

const word = 1 << 32

// primes are the first n of them.
func primes(n int) []int {
	var found []int
next:
	for p := 2; len(found) < n; p++ {
		for _, q := range found {
			if p%q == 0 {
				continue next
			}
		}
		found = append(found, p)
	}
	return found
}

// behindPoint is what stands behind the point of a number's root, times 2^32, rounded down; power is 2 or 3.
func behindPoint(number, power int) int {
	wide := new(big.Int).Lsh(big.NewInt(int64(number)), uint(32*power))
	low, high := big.NewInt(0), new(big.Int).Set(wide)
	for low.Cmp(high) < 0 {
		middle := new(big.Int).Add(low, high)
		middle.Add(middle, big.NewInt(1)).Rsh(middle, 1)
		if new(big.Int).Exp(middle, big.NewInt(int64(power)), nil).Cmp(wide) <= 0 {
			low = middle
		} else {
			high = middle.Sub(middle, big.NewInt(1))
		}
	}
	return int(new(big.Int).Mod(low, big.NewInt(word)).Int64())
}

// constants are the chapter's first words h and k, worked out as it says.
var constants = sync.OnceValues(func() (h, k []int) {
	for _, p := range primes(8) {
		h = append(h, behindPoint(p, 2))
	}
	for _, p := range primes(64) {
		k = append(k, behindPoint(p, 3))
	}
	return h, k
})

func rot(x, n int) int { return x>>n | x<<(32-n)%word }

func sh(x, n int) int { return x >> n }

func not(x int) int { return word - 1 - x }

// filledUp is bytes filled up, told as it stands in the chapter.
func filledUp(b []byte) []byte {
	full := append(bytes.Clone(b), 128)
	for len(full)%64 != 56 {
		full = append(full, 0)
	}
	n := 8 * len(b)
	for i := 7; i >= 0; i-- {
		full = append(full, byte(n>>(8*i)))
	}
	return full
}

// slowBlock is what a block does to the words, told as it stands in the chapter.
func slowBlock(h []int, block []byte, k []int) []int {
	w := make([]int, 64)
	for n := range 16 {
		for _, c := range block[4*n : 4*n+4] {
			w[n] = w[n]*256 + int(c)
		}
	}
	for n := 16; n < 64; n++ {
		x, y := w[n-15], w[n-2]
		s0 := rot(x, 7) ^ rot(x, 18) ^ sh(x, 3)
		s1 := rot(y, 17) ^ rot(y, 19) ^ sh(y, 10)
		w[n] = (w[n-16] + w[n-7] + s0 + s1) % word
	}
	a, b, c, d, e, f, g, i := h[0], h[1], h[2], h[3], h[4], h[5], h[6], h[7]
	for n := range 64 {
		t := (i + (rot(e, 6) ^ rot(e, 11) ^ rot(e, 25)) + ((e & f) ^ (not(e) & g)) + k[n] + w[n]) % word
		u := ((rot(a, 2) ^ rot(a, 13) ^ rot(a, 22)) + ((a & b) ^ (a & c) ^ (b & c))) % word
		i, g, f = g, f, e
		e = (d + t) % word
		d, c, b = c, b, a
		a = (t + u) % word
	}
	var out []int
	for n, x := range []int{a, b, c, d, e, f, g, i} {
		out = append(out, (h[n]+x)%word)
	}
	return out
}

// slowSum is P3.1, told as it stands there.
func slowSum(b []byte) []byte {
	h, k := constants()
	for full := filledUp(b); len(full) > 0; full = full[64:] {
		h = slowBlock(h, full[:64], k)
	}
	var out []byte
	for _, x := range h {
		out = append(out, byte(x>>24), byte(x>>16), byte(x>>8), byte(x))
	}
	return out
}

func someBytes(rnd *rand.Rand, size int) []byte {
	b := make([]byte, size)
	rnd.Read(b)
	return b
}

// wantSum holds a digest against the chapter's words and against the library's, which is a second opinion.
func wantSum(t *testing.T, b []byte) {
	t.Helper()
	got := hash.Sum(b)
	if want := slowSum(b); !bytes.Equal(got, want) {
		t.Errorf("Sum of %d bytes: %x, not %x", len(b), got, want)
	}
	if want := sha256.Sum256(b); !bytes.Equal(got, want[:]) {
		t.Errorf("Sum of %d bytes: %x, the library says %x", len(b), got, want)
	}
}

// P3.1: the chapter's examples.
func TestSumOfKnownBytes(t *testing.T) {
	for s, want := range map[string]string{
		"":    "e3b0c442 98fc1c14 9afbf4c8 996fb924 27ae41e4 649b934c a495991b 7852b855",
		"abc": "ba7816bf 8f01cfea 414140de 5dae2223 b00361a3 96177a9c b410ff61 f20015ad",
	} {
		if got := hex.EncodeToString(hash.Sum([]byte(s))); got != strings.ReplaceAll(want, " ", "") {
			t.Errorf("Sum(%q): %s, not %s", s, got, want)
		}
	}
}

// P3.1: no bytes, as nil too (W5).
func TestSumOfNothing(t *testing.T) {
	wantSum(t, nil)
	wantSum(t, []byte{})
	wantSum(t, make([]byte, 0, 100))
}

// P3.1: every length of up to some blocks, so each number of noughts behind, and each edge at which a further block begins.
func TestSumOfEachLength(t *testing.T) {
	rnd := rand.New(rand.NewSource(31))
	for size := range 64*5 + 2 {
		wantSum(t, someBytes(rnd, size))
	}
}

// P3.1: the edges by name: eight bytes, or one more or fewer, lacking to a multiple of 64; whole blocks, a byte more, a byte less. Of bytes like those that fill up, too.
func TestSumAtEdges(t *testing.T) {
	for blocks := 1; blocks <= 20; blocks++ {
		for _, lack := range []int{10, 9, 8, 7, 1, 0, -1} {
			for _, c := range []byte{0, 1, 127, 128, 255} {
				wantSum(t, bytes.Repeat([]byte{c}, 64*blocks-lack))
			}
		}
	}
}

// P3.1: every byte alone.
func TestSumOfEachByte(t *testing.T) {
	for c := range 256 {
		wantSum(t, []byte{byte(c)})
	}
}

// P3.1: each single bit of a block and of the two beside it.
func TestSumOfEachBit(t *testing.T) {
	for bit := range 8 * 192 {
		b := make([]byte, 192)
		b[bit/8] = 1 << (bit % 8)
		wantSum(t, b)
	}
}

// P3.1: any bytes.
func TestSumOfSomeBytes(t *testing.T) {
	rnd := rand.New(rand.NewSource(32))
	for range 300 {
		wantSum(t, someBytes(rnd, rnd.Intn(2000)))
	}
	wantSum(t, someBytes(rnd, 1<<20))
}

// P3.1: bytes that are filled up already, and digests, are bytes like others.
func TestSumOfOwnForms(t *testing.T) {
	b := []byte("a tap")
	for range 10 {
		wantSum(t, filledUp(b))
		b = hash.Sum(b)
		wantSum(t, b)
	}
}

// P3.1: so many bytes that eight times them is more than a word holds.
func TestSumOfVeryManyBytes(t *testing.T) {
	if testing.Short() {
		t.Skip("takes some seconds")
	}
	piece := someBytes(rand.New(rand.NewSource(33)), 1<<20)
	h, want := hash.New(), sha256.New()
	for range 1 << 9 {
		h.Write(piece)
		want.Write(piece)
	}
	if got := h.Sum(); h.Len() != 1<<29 || !bytes.Equal(got, want.Sum(nil)) {
		t.Errorf("%d bytes: %x", h.Len(), got)
	}
}
