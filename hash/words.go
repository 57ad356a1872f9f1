package hash

import "math/bits"

type (
	words [8]uint32
	block [blockSize]byte
)

// firstWords are of the square roots of the first eight primes: what stands behind the point.
var firstWords = words{
	0x6a09e667, 0xbb67ae85, 0x3c6ef372, 0xa54ff53a, 0x510e527f, 0x9b05688c, 0x1f83d9ab, 0x5be0cd19,
}

// roundWords are likewise of the cube roots of the first sixty-four primes.
var roundWords = [64]uint32{
	0x428a2f98, 0x71374491, 0xb5c0fbcf, 0xe9b5dba5, 0x3956c25b, 0x59f111f1, 0x923f82a4, 0xab1c5ed5,
	0xd807aa98, 0x12835b01, 0x243185be, 0x550c7dc3, 0x72be5d74, 0x80deb1fe, 0x9bdc06a7, 0xc19bf174,
	0xe49b69c1, 0xefbe4786, 0x0fc19dc6, 0x240ca1cc, 0x2de92c6f, 0x4a7484aa, 0x5cb0a9dc, 0x76f988da,
	0x983e5152, 0xa831c66d, 0xb00327c8, 0xbf597fc7, 0xc6e00bf3, 0xd5a79147, 0x06ca6351, 0x14292967,
	0x27b70a85, 0x2e1b2138, 0x4d2c6dfc, 0x53380d13, 0x650a7354, 0x766a0abb, 0x81c2c92e, 0x92722c85,
	0xa2bfe8a1, 0xa81a664b, 0xc24b8b70, 0xc76c51a3, 0xd192e819, 0xd6990624, 0xf40e3585, 0x106aa070,
	0x19a4c116, 0x1e376c08, 0x2748774c, 0x34b0bcb5, 0x391c0cb3, 0x4ed8aa4a, 0x5b9cca4f, 0x682e6ff3,
	0x748f82ee, 0x78a5636f, 0x84c87814, 0x8cc70208, 0x90befffa, 0xa4506ceb, 0xbef9a3f7, 0xc67178f2,
}

// changed is what a block makes of the words.
func (h words) changed(by block) words {
	a, b, c, d, e, f, g, i := h[0], h[1], h[2], h[3], h[4], h[5], h[6], h[7]
	for n, w := range spread(by) {
		t := i + (rot(e, 6) ^ rot(e, 11) ^ rot(e, 25)) + (e&f ^ ^e&g) + roundWords[n] + w
		u := (rot(a, 2) ^ rot(a, 13) ^ rot(a, 22)) + (a&b ^ a&c ^ b&c)
		i, g, f, e = g, f, e, d+t
		d, c, b, a = c, b, a, t+u
	}
	for n, more := range (words{a, b, c, d, e, f, g, i}) {
		h[n] += more
	}
	return h
}

// spread makes sixty-four words of a block: its own, and what these come to.
func spread(by block) [64]uint32 {
	var w [64]uint32
	for n := range 16 {
		w[n] = uint32(by[4*n])<<24 | uint32(by[4*n+1])<<16 | uint32(by[4*n+2])<<8 | uint32(by[4*n+3])
	}
	for n := 16; n < len(w); n++ {
		x, y := w[n-15], w[n-2]
		s0 := rot(x, 7) ^ rot(x, 18) ^ x>>3
		s1 := rot(y, 17) ^ rot(y, 19) ^ y>>10
		w[n] = w[n-16] + w[n-7] + s0 + s1
	}
	return w
}

func rot(x uint32, n int) uint32 { return bits.RotateLeft32(x, -n) }

func (h words) bytes() []byte {
	b := make([]byte, 0, 4*len(h))
	for _, w := range h {
		b = append(b, byte(w>>24), byte(w>>16), byte(w>>8), byte(w))
	}
	return b
}
