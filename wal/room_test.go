package wal_test

import (
	"math"
	"math/rand"
	"testing"

	"farebox/wal"
)

var noLogs = []int{math.MinInt, math.MinInt + 1, -1 << 20, -4, -1, 0, 1, 2, 3, 1<<20 + 1, 1<<20 + 2, 1 << 21, math.MaxInt - 1, math.MaxInt}

// P9.1: Room of every number of sectors that the chapter names, and of some between them.
func TestRoomOfDisks(t *testing.T) {
	for sectors, want := range map[int]int{4: 492, 5: 492, 6: 996, 7: 996, 8: 1500, 9: 1500, 10: 2004, 400: 504*199 - 12, 1<<20 - 1: 504*(1<<19-2) - 12, 1 << 20: 504*(1<<19-1) - 12} {
		if n := wal.Room(sectors); n != want {
			t.Errorf("Room(%d): %d, not %d", sectors, n, want)
		}
	}
	for _, sectors := range noLogs {
		if n := wal.Room(sectors); n != -1 {
			t.Errorf("Room(%d): %d", sectors, n)
		}
	}
}

func wantFits(t *testing.T, sectors int, want bool, l ...int) {
	t.Helper()
	if is := wal.Fits(sectors, sizes(l...)); is != want {
		t.Errorf("Fits(%d, %v): %v", sectors, l, is)
	}
}

// P9.1: records that fill the stream to its last byte fit, one byte more does not.
func TestFitsToTheLastByte(t *testing.T) {
	for _, sectors := range []int{4, 5, 6, 7, 10, 11, 31} {
		all := 504 * ((sectors - 2) / 2)
		wantFits(t, sectors, true, all-12)
		wantFits(t, sectors, false, all-11)
		wantFits(t, sectors, true, 0, all-24)
		wantFits(t, sectors, false, 0, all-23)
		wantFits(t, sectors, true, all-24, 0)
		wantFits(t, sectors, false, all-23, 0)
		wantFits(t, sectors, false, all-12, 0)
	}
}

// P9.1: no record, and records of 0 bytes, of which 42 stand in a sector.
func TestFitsOfNothing(t *testing.T) {
	for _, sectors := range []int{4, 5, 6, 7, 10, 1<<20 - 1, 1 << 20} {
		wantFits(t, sectors, true)
		if !wal.Fits(sectors, [][]byte{}) {
			t.Errorf("Fits(%d) of an empty list", sectors)
		}
		wantFits(t, sectors, true, 0)
	}
	wantFits(t, 4, true, make([]int, 42)...)
	wantFits(t, 4, false, make([]int, 43)...)
	wantFits(t, 5, false, make([]int, 43)...)
	wantFits(t, 6, true, make([]int, 84)...)
	wantFits(t, 6, false, make([]int, 85)...)
}

// P9.1: where 12 bytes of a sector's part are left a frame begins; where there are fewer it begins in the next sector.
func TestFitsBetweenSectors(t *testing.T) {
	for left := range 30 {
		first := 504 - 12 - left
		rest := 1008 - 504 - 12
		if left >= 12 {
			rest += left
		}
		wantFits(t, 6, true, first, rest)
		wantFits(t, 6, false, first, rest+1)
		wantFits(t, 4, left >= 12, first, 0)
		wantFits(t, 6, left >= 12, 504+first, 0)
		wantFits(t, 8, true, 504+first, 0)
	}
}

// P9.1: what no log could stand on fits nothing.
func TestFitsOfNoLog(t *testing.T) {
	for _, sectors := range noLogs {
		wantFits(t, sectors, false)
		wantFits(t, sectors, false, 0)
		wantFits(t, sectors, false, 100, 7)
	}
}

// P9.1: the greatest disk: the record that fills it, and one byte more.
func TestFitsOfTheGreatestDisk(t *testing.T) {
	b := make([]byte, 504*(1<<19-1)-11)
	if !wal.Fits(1<<20, [][]byte{b[1:]}) || wal.Fits(1<<20, [][]byte{b}) {
		t.Error("the last byte of the greatest disk")
	}
	if wal.Fits(1<<20, [][]byte{b[1:], nil}) || wal.Fits(1<<20, [][]byte{b, b, b, b}) {
		t.Error("more than the greatest disk")
	}
	if !wal.Fits(1<<20-1, [][]byte{b[505:]}) || wal.Fits(1<<20-1, [][]byte{b[504:]}) {
		t.Error("the last byte of an odd disk")
	}
}

// P9.1: any records, against the stream that they would make.
func TestFitsOfSomeRecords(t *testing.T) {
	rnd := rand.New(rand.NewSource(91))
	fit := 0
	for range 3000 {
		sectors, l := 4+rnd.Intn(5), someRecords(rnd)
		want := len(slowStream(l)) <= 504*((sectors-2)/2)
		if is := wal.Fits(sectors, l); is != want {
			t.Fatalf("Fits(%d, %s): %v", sectors, short(l), is)
		}
		if want {
			fit++
		}
	}
	if fit < 500 || fit > 2500 {
		t.Errorf("%d of them fit", fit)
	}
}
