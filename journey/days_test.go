package journey_test

import (
	"math/rand"
	"slices"
	"testing"

	"farebox/api"
	"farebox/clock"
	"farebox/journey"
)

// at are rides at these times.
func at(times ...int) []api.Tap {
	var l []api.Tap
	for i, x := range times {
		l = append(l, api.Tap{Device: 1, Counter: 1 + i, Token: token, Kind: bus, Place: 9, Time: x})
	}
	return l
}

// daysAre holds how many taps each day has.
func daysAre(t *testing.T, l []api.Tap, want ...int) {
	t.Helper()
	got, e := days(t, l)
	var many []int
	for _, d := range got {
		many = append(many, len(d))
	}
	if e != api.OK || !slices.Equal(many, want) {
		t.Errorf("Days of %s: %v, %d, not %v", short(l), many, e, want)
	}
}

// P17.2: no taps, one, all of one day.
func TestDaysOne(t *testing.T) {
	daysAre(t, nil)
	daysAre(t, []api.Tap{})
	for _, x := range []int{0, 269, 270, 480, 1439, 1440, 1709, 1710, maxTime - 1, maxTime} {
		daysAre(t, at(x), 1)
	}
	daysAre(t, at(270, 271, 1439, 1440, 1709), 5)
	daysAre(t, rising(1440, 270), 1440)
}

// P17.2: the last minute of a travel day, and the first one of the next; midnight is neither.
func TestDaysAtHalfPastFour(t *testing.T) {
	for _, day := range []int{-1, 0, 1, 4, 5, 6, 7, 100, 1491306} {
		begin, end := 1440*day+270, 1440*(day+1)+270
		daysAre(t, at(end-1, end), 1, 1)
		daysAre(t, at(end-2, end-1, end, end+1), 2, 2)
		if day >= 0 {
			daysAre(t, at(begin-1, begin, end-1, end), 1, 2, 1)
			daysAre(t, at(begin, end-1), 2)
			daysAre(t, at(1440*(day+1)-1, 1440*(day+1)), 2)
		}
	}
	daysAre(t, at(0, 269), 2)
	daysAre(t, at(0, 269, 270), 2, 1)
	daysAre(t, at(2147482349, 2147482350, maxTime), 1, 2)
}

// P17.2: days without taps are left out, however many they are.
func TestDaysBetween(t *testing.T) {
	daysAre(t, at(480, 480+1440, 480+2*1440), 1, 1, 1)
	daysAre(t, at(480, 480+3*1440), 1, 1)
	daysAre(t, at(0, maxTime), 1, 1)
	daysAre(t, at(0, 480, 481, 480+1000*1440, 481+1000*1440, 482+1000*1440, maxTime), 1, 2, 3, 1)
}

// P17.2: taps of one time are of one day, whatever else they are; not known ones are among them.
func TestDaysOfAnyTaps(t *testing.T) {
	l := []api.Tap{
		{Device: 1, Counter: 1, Token: token, Kind: in, Place: 1, Time: 1709},
		{Device: 1, Counter: 2, Token: token, Kind: out, Place: 65535, Time: 1709},
		{Device: 2, Counter: 1, Token: token, Kind: bus, Place: 1000, Time: 1709},
		{Device: 1, Counter: 3, Token: token, Kind: in, Place: 60000, Time: 1710},
		{Device: 3, Counter: 1, Token: token, Kind: out, Place: 1, Time: 1710},
	}
	daysAre(t, l, 3, 2)
}

// P17.2: as many taps as there may be, each of a day of its own, and all of few.
func TestDaysFull(t *testing.T) {
	var l []api.Tap
	for i := range 2000 {
		l = append(l, api.Tap{Device: 1, Counter: 1 + i, Token: token, Kind: bus, Place: 9, Time: 480 + 1440*i})
	}
	if got, e := days(t, l); e != api.OK || len(got) != 2000 {
		t.Error(len(got), e)
	}
	daysAre(t, rising(2000, 270), 1440, 560)
	daysAre(t, rising(2000, 0), 270, 1440, 290)
}

// P17.2, W3: Right's errors, without days.
func TestDaysErrors(t *testing.T) {
	fails := func(l []api.Tap, want api.Errno) {
		t.Helper()
		if got, e := days(t, l); e != want || len(got) != 0 {
			t.Errorf("Days of %s: %v, %d, not %d", short(l), got, e, want)
		}
	}
	fails(rising(2001, 0), api.ErrLong)
	fails(make([]api.Tap, 2001), api.ErrLong)
	fails(at(480, 480+1440, 480+1440-1), api.ErrTaps)
	alike := at(480, 480)
	alike[1].Counter = 1
	fails(alike, api.ErrTaps)
	for i := range 4 {
		l := at(480, 481, 480+1440, 481+1440)
		fails(spoilt(l, i, func(x *api.Tap) { x.Token = "zzzzzzzz" }), api.ErrTaps)
		for _, spoil := range notTaps() {
			fails(spoilt(l, i, spoil), api.ErrRecord)
		}
	}
}

// P17.2, P17.5: over many days: all days' taps, one day behind another, are the taps; each day has some, all its own, and the days rise.
func TestDaysOfMany(t *testing.T) {
	rnd := rand.New(rand.NewSource(172))
	for range 400 {
		l := someDays(rnd)
		got, e := days(t, l)
		if e != api.OK || !slices.Equal(slices.Concat(got...), l) {
			t.Fatalf("Days of %s: %v, %d", short(l), got, e)
		}
		last := -2
		for _, d := range got {
			if len(d) == 0 {
				t.Fatal("a day without taps")
			}
			day, _ := clock.Day(d[0].Time)
			if day <= last {
				t.Fatalf("day %d behind %d", day, last)
			}
			last = day
			from, to := clock.Bounds(day)
			for _, x := range d {
				if x.Time < from || x.Time >= to {
					t.Fatalf("%d is not of day %d", x.Time, day)
				}
			}
			if e := journey.Right(d); e != api.OK {
				t.Fatal(e)
			}
		}
	}
}
