package clock_test

import (
	"math"
	"math/rand"
	"slices"
	"testing"

	"farebox/api"
	"farebox/clock"
)

// slowPeak is P6.3, told as it stands there: the travel days are looked for one by one.
func slowPeak(l []api.Band, n int) bool {
	if n < 0 || n > lastTime {
		return false
	}
	day := n/1440 - 2
	for !isOn(n, day) {
		day++
	}
	weekday := (day + 7) % 7 // of times the first day is -1
	in := false
	for _, b := range l {
		in = in || b.From <= n%1440 && n%1440 < b.To
	}
	return weekday < 5 && in
}

func wantPeak(t *testing.T, l []api.Band, n int) {
	t.Helper()
	if got, want := clock.Peak(l, n), slowPeak(l, n); got != want {
		t.Errorf("Peak(%d, %d): %t", l, n, got)
	}
}

func wantPeaks(t *testing.T, l []api.Band, want map[int]bool) {
	t.Helper()
	for n, is := range want {
		if got := clock.Peak(l, n); got != is {
			t.Errorf("Peak(%d, %d): %t", l, n, got)
		}
	}
}

// at is the minute of a day of the first weeks, by midnights.
func at(day, hour, minute int) int { return 1440*day + 60*hour + minute }

// P6.3: the chapter's examples; the first minute of a band, the last one, the one behind.
func TestPeakOfTheChapter(t *testing.T) {
	l := []api.Band{{From: 390, To: 570}}
	wantPeaks(t, l, map[int]bool{
		390: true, 570: false, 389: false, at(6, 0, 400): false, 391: true, 569: true, 571: false, 0: false, 270: false,
		at(4, 6, 29): false, at(4, 6, 30): true, at(4, 9, 29): true, at(4, 9, 30): false,
		at(5, 6, 30): false, at(5, 9, 29): false, at(6, 6, 30): false, at(6, 9, 29): false, at(7, 6, 29): false, at(7, 6, 30): true, at(7, 9, 29): true, at(7, 9, 30): false,
		390 + 1440*1491307: false, 390 + 1440*1491302: true,
	})
}

// P6.3: the weekday is the travel day's, the minutes are since midnight: a Saturday's first hours are Friday's, a Monday's are Sunday's.
func TestPeakByTravelDays(t *testing.T) {
	all := []api.Band{{From: 0, To: 1440}}
	wantPeaks(t, all, map[int]bool{
		0: false, 269: false, 270: true, 1439: true, 1440: true, 1709: true, 1710: true,
		at(4, 4, 29): true, at(4, 4, 30): true, at(4, 23, 59): true,
		at(5, 0, 0): true, at(5, 4, 29): true, at(5, 4, 30): false, at(5, 23, 59): false,
		at(6, 0, 0): false, at(6, 4, 29): false, at(6, 4, 30): false, at(6, 23, 59): false,
		at(7, 0, 0): false, at(7, 4, 29): false, at(7, 4, 30): true, at(8, 0, 0): true,
		lastTime - 1: false, lastTime: false,
	})
	night := []api.Band{{From: 0, To: 60}, {From: 240, To: 300}}
	wantPeaks(t, night, map[int]bool{
		0: false, 59: false, 240: false, 269: false, 270: true, 299: true, 300: false,
		at(1, 0, 0): true, at(1, 0, 59): true, at(1, 1, 0): false, at(1, 4, 0): true, at(1, 4, 29): true, at(1, 4, 59): true,
		at(5, 0, 0): true, at(5, 0, 59): true, at(5, 1, 0): false, at(5, 4, 29): true, at(5, 4, 30): false,
		at(6, 0, 30): false, at(7, 0, 0): false, at(7, 0, 59): false, at(7, 4, 29): false, at(7, 4, 30): true, at(7, 4, 59): true, at(7, 5, 0): false,
	})
}

// P6.3: bands that hold nothing: none at all (W5), empty ones, such as end ahead of their beginning, such as lie out of a day.
func TestPeakInNoBand(t *testing.T) {
	for _, l := range [][]api.Band{
		nil, {}, {{}}, {{From: 400, To: 400}}, {{From: 570, To: 390}}, {{From: 1439, To: 0}}, {{From: 1440, To: 2880}}, {{From: 1440, To: math.MaxInt}},
		{{From: -1440, To: 0}}, {{From: -10, To: -5}}, {{From: math.MinInt, To: 0}}, {{From: math.MaxInt, To: math.MinInt}}, {{From: math.MinInt, To: math.MinInt}}, {{From: math.MaxInt, To: math.MaxInt}},
		{{From: 500, To: 300}, {From: 300, To: 300}, {From: 2000, To: 1000}},
	} {
		for n := range 10080 {
			if clock.Peak(l, n) {
				t.Fatalf("Peak(%d, %d): true", l, n)
			}
		}
	}
}

// bandEdges are minutes at which a band may begin or end.
func bandEdges() []int {
	return []int{math.MinInt, -1441, -1440, -1, 0, 1, 269, 270, 271, 390, 570, 1438, 1439, 1440, 1441, 1709, 1710, 2880, math.MaxInt}
}

// P6.3: bands may be any; of every two edges, at all times of someTimes.
func TestPeakAtTheEdges(t *testing.T) {
	for _, from := range bandEdges() {
		for _, to := range bandEdges() {
			for _, n := range append(someTimes(), 389, 390, 391, 569, 570, 571) {
				wantPeak(t, []api.Band{{From: from, To: to}}, n)
			}
		}
	}
}

// P6.3: what is no time is in no peak, whatever the bands.
func TestPeakOfNoTime(t *testing.T) {
	l := []api.Band{{From: math.MinInt, To: math.MaxInt}, {From: 0, To: 1440}, {From: -1440, To: 0}}
	for _, n := range notTimes() {
		if clock.Peak(l, n) {
			t.Errorf("Peak(%d): true", n)
		}
	}
}

// P6.3: one band is enough, wherever it stands among others, in any order, one over another one too.
func TestPeakOfManyBands(t *testing.T) {
	rnd := rand.New(rand.NewSource(63))
	for range 20000 {
		l := make([]api.Band, rnd.Intn(10))
		for i := range l {
			from := rnd.Intn(1700) - 150
			l[i] = api.Band{From: from, To: from + rnd.Intn(200) - 20}
		}
		wantPeak(t, l, anyTime(rnd))
		wantPeak(t, l, rnd.Intn(2*10080))
	}
	long := make([]api.Band, 100000)
	wantPeaks(t, append(long, api.Band{From: 390, To: 570}), map[int]bool{389: false, 390: true, 569: true, 570: false})
}

// P6.3: the list and its spare room stay as they are, and nothing of it is kept (W6).
func TestPeakLeavesItsList(t *testing.T) {
	all := []api.Band{{From: 570, To: 390}, {From: 390, To: 570}, {From: 0, To: 60}, {From: 9, To: 8}}
	before := slices.Clone(all)
	l := all[:2]
	wantPeaks(t, l, map[int]bool{400: true, 1440: false})
	if !slices.Equal(all, before) {
		t.Error("changed:", all)
	}
	l[1] = api.Band{From: 1000, To: 1001}
	wantPeaks(t, l, map[int]bool{400: false, 1000: true})
}
