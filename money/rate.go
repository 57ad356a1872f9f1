package money

import (
	"cmp"
	"math"
	"math/bits"

	"farebox/api"
)

// A float64's bits: its sign, its exponent, and all of its fraction but the first bit, which is hidden.
const (
	signBit      = 1 << 63
	fractionBits = 52
	hiddenBit    = 1 << fractionBits

	// wholeExponent is that of the floats whose fractions are whole numbers as they stand.
	wholeExponent = 1023 + fractionBits
)

// Rate tells whether a rate may be. From 0 on bits rise as the floats do; those of NaN and of all that have a sign, -0 too, are above.
func Rate(f float64) bool { return math.Float64bits(f) <= math.Float64bits(1) }

// Scale is an amount times a rate, rounded.
func Scale(n int, f float64) (int, api.Errno) {
	if !isOwed(n) {
		return 0, api.ErrMoney
	}
	if !Rate(f) {
		return 0, api.ErrRate
	}
	b := math.Float64bits(f)
	// The least floats have no hidden bit, but of them nothing is left with it either.
	fraction := b&(hiddenBit-1) | hiddenBit
	high, low := bits.Mul64(uint64(n), fraction)
	return int(shiftedDown(high, low, wholeExponent-b>>fractionBits)), api.OK
}

// shiftedDown divides 128 bits, of which the first is 0, by 2 to the power of shift, which is above 0; a half is rounded up.
func shiftedDown(high, low, shift uint64) uint64 {
	const word = 64
	if shift > word {
		high += 1 << (shift - word - 1)
		return high >> (shift - word)
	}
	low, carry := bits.Add64(low, 1<<(shift-1), 0)
	return (high+carry)<<(word-shift) | low>>shift
}

// Order is -1, 0 or 1: a stands ahead of b, with it, behind it; of all float64.
func Order(a, b float64) int { return cmp.Compare(rank(a), rank(b)) }

// rank rises as floats do: below 0 the bits fall as the numbers rise, so these are turned round.
func rank(f float64) uint64 {
	b := math.Float64bits(f)
	switch {
	case math.IsNaN(f):
		return math.MaxUint64
	case b&signBit != 0:
		return ^b
	}
	return b | signBit
}
