package queue_test

import (
	"math"
	"testing"

	"farebox/queue"
	"farebox/wal"
)

// noLimits are numbers that a limit may not be.
var noLimits = []int{math.MinInt, math.MinInt + 1, -1 << 32, -4096, -5, -4, -3, -1, 0, 4097, 4098, 1 << 20, 1 << 32, math.MaxInt/300 - 4, math.MaxInt / 300, math.MaxInt - 4, math.MaxInt - 1, math.MaxInt}

// P10.1: what the chapter names, and the limits about which 504 H is just 300 times limit and 4.
func TestSectors(t *testing.T) {
	for limit, want := range map[int]int{1: 8, 2: 10, 3: 12, 37: 52, 38: 52, 39: 54, 79: 102, 80: 102, 81: 104, 4095: 4882, 4096: 4884} {
		if n := queue.Sectors(limit); n != want {
			t.Errorf("Sectors(%d): %d, not %d", limit, n, want)
		}
	}
	for _, limit := range noLimits {
		if n := queue.Sectors(limit); n != 0 {
			t.Errorf("Sectors(%d): %d", limit, n)
		}
	}
}

// P10.1: every limit: H is enough, and one less is not; so many records as the chapter says fit.
func TestSectorsOfEveryLimit(t *testing.T) {
	var records [][]byte
	for range 4 {
		records = append(records, make([]byte, 269))
	}
	for limit := 1; limit <= 4096; limit++ {
		records = append(records, records[0])
		n := queue.Sectors(limit)
		if h := (n - 2) / 2; n != 2+2*h || 504*h < 300*(limit+4) || 504*(h-1) >= 300*(limit+4) {
			t.Fatalf("Sectors(%d): %d", limit, n)
		}
		if limit%17 == 1 && !wal.Fits(n, records) {
			t.Fatalf("Sectors(%d): %d: %d records do not fit", limit, n, len(records))
		}
	}
}
