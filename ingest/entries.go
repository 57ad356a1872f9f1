package ingest

import (
	"iter"
	"strings"

	"farebox/api"
	"farebox/record"
	"farebox/store"
)

// What keys begin with: that of a tap (record.Key makes it), that of a device's counter, that of an item that was put aside.
const (
	tapLetter     = "t"
	counterLetter = "x"
	badLetter     = "q"
)

// Bytes of numbers in keys.
const (
	deviceSize  = 2
	counterSize = 4
	badSize     = 8
)

// keyOf is what an entry stands under: parts one behind another.
func keyOf(parts ...string) string { return strings.Join(parts, "") }

// part is a number as one of a key's: of so many bytes, so that keys stand in the order of their numbers.
func part(n uint64, size int) string {
	b := make([]byte, size)
	for i := range b {
		b[size-1-i] = byte(n >> (8 * i))
	}
	return string(b)
}

// numberOf is the number that a part is.
func numberOf(part string) uint64 {
	n := uint64(0)
	for _, b := range []byte(part) {
		n = n<<8 | uint64(b)
	}
	return n
}

func counterKey(tap api.Tap) string {
	return keyOf(counterLetter, part(uint64(tap.Device), deviceSize), part(uint64(tap.Counter), counterSize))
}

func badKey(number uint64) string { return keyOf(badLetter, part(number, badSize)) }

// under goes through the entries whose keys begin so.
func under(d *store.Draft, prefix string) iter.Seq2[string, string] {
	return func(yield func(key, value string) bool) {
		for key, value := range d.All(prefix, "") {
			if !strings.HasPrefix(key, prefix) || !yield(key, value) {
				return
			}
		}
	}
}

// tapsIn goes through the taps that were taken in. An entry that others laid among them is none: its key is not that of the tap that it says.
func tapsIn(d *store.Draft) iter.Seq[api.Tap] {
	return func(yield func(api.Tap) bool) {
		for key, value := range under(d, tapLetter) {
			tap, _ := record.ReadTap([]byte(value))
			own, _ := record.Key(tap)
			if own == key && !yield(tap) {
				return
			}
		}
	}
}

// tokensIn is how many tokens there are of which an entry begins with a tap's letter and the token. Those of one token stand together.
func tokensIn(d *store.Draft) int {
	const size = len(tapLetter) + api.TokenSize
	many, last := 0, ""
	for key := range under(d, tapLetter) {
		if len(key) >= size && key[:size] != last {
			many++
			last = key[:size]
		}
	}
	return many
}

// badIn goes through the items that were put aside, with their numbers, which rise.
func badIn(d *store.Draft) iter.Seq2[uint64, string] {
	return func(yield func(number uint64, item string) bool) {
		for key, item := range under(d, badLetter) {
			number := strings.TrimPrefix(key, badLetter)
			if len(number) == badSize && !yield(numberOf(number), item) {
				return
			}
		}
	}
}
