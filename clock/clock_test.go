package clock_test

import (
	"math"
	"math/big"
	"math/rand"
	"testing"

	"farebox/api"
	"farebox/clock"
)

const (
	lastTime = 1 << 31
	lastDay  = 1 << 40
)

// notTimes are numbers that are none.
func notTimes() []int {
	return []int{-1, -2, -269, -270, -1440, -10080, lastTime + 1, lastTime + 2, lastTime + 1440, 1 << 32, 1<<32 + 270, -1 << 31, math.MinInt, math.MinInt + 1, math.MinInt + 270, math.MaxInt, math.MaxInt - 1, math.MaxInt - 1440}
}

// someTimes are times at which a day, a week or all of them begin or end, and some beside them.
func someTimes() []int {
	var l []int
	for _, week := range []int{0, 1, 2, 1000, 213043} {
		for day := range 8 {
			midnight := 10080*week + 1440*day
			for _, minute := range []int{-1, 0, 1, 59, 60, 61, 269, 270, 271, 719, 720, 1438, 1439} {
				if t := midnight + minute; t >= 0 && t <= lastTime {
					l = append(l, t)
				}
			}
		}
	}
	return append(l, lastTime-1, lastTime)
}

// anyTime is a time of any size.
func anyTime(rnd *rand.Rand) int { return rnd.Intn(lastTime+1) >> rnd.Intn(32) }

// someDays are travel days at which a week or all of them begin or end, and some beside them.
func someDays() []int {
	l := []int{-lastDay, -lastDay + 1, lastDay - 1, lastDay, 1 << 31, -1 << 31, 1<<32 + 3, -1<<32 - 3}
	for day := -30; day <= 30; day++ {
		l = append(l, day, lastDay-30+day, 30-lastDay+day)
	}
	return l
}

// notDays are numbers of which Week, Weekday and Bounds tell nothing.
func notDays() []int {
	return []int{-lastDay - 1, lastDay + 1, -lastDay - 2, lastDay + 2, -lastDay - 7, lastDay + 7, 1 << 41, -1 << 41, 1 << 62, math.MinInt, math.MinInt + 1, math.MaxInt, math.MaxInt - 1}
}

// slowBounds are the minutes of a travel day by the chapter's words, in numbers that have no end.
func slowBounds(day int) (*big.Int, *big.Int) {
	first := func(d *big.Int) *big.Int {
		return new(big.Int).Add(new(big.Int).Mul(big.NewInt(1440), d), big.NewInt(270))
	}
	d := big.NewInt(int64(day))
	return first(d), first(new(big.Int).Add(d, big.NewInt(1)))
}

// isOn tells whether a time is on a travel day, likewise.
func isOn(t, day int) bool {
	from, to := slowBounds(day)
	n := big.NewInt(int64(t))
	return n.Cmp(from) >= 0 && n.Cmp(to) < 0
}

// P6.1: times, and what lies beside them.
func TestRight(t *testing.T) {
	for _, n := range someTimes() {
		if !clock.Right(n) {
			t.Errorf("Right(%d): false", n)
		}
	}
	for _, n := range notTimes() {
		if clock.Right(n) {
			t.Errorf("Right(%d): true", n)
		}
	}
	if api.MaxTime != lastTime || api.DayStart != 270 {
		t.Error("MaxTime, DayStart:", api.MaxTime, api.DayStart)
	}
}

// P6.1: the chapter's examples, and the edges of days.
func TestDayOfTheChapter(t *testing.T) {
	for n, want := range map[int]int{
		0: -1, 1: -1, 269: -1, 270: 0, 271: 0, 1439: 0, 1440: 0, 1709: 0, 1710: 1, 3149: 1, 3150: 2,
		10079: 6, 10080: 6, 10349: 6, 10350: 7, lastTime - 1: 1491307, lastTime: 1491307,
	} {
		if day, e := clock.Day(n); day != want || e != api.OK {
			t.Errorf("Day(%d): %d, %d, not %d", n, day, e, want)
		}
	}
}

// P6.1: what is no time has no day (W3).
func TestDayRefused(t *testing.T) {
	for _, n := range notTimes() {
		if day, e := clock.Day(n); day != 0 || e != api.ErrTime {
			t.Errorf("Day(%d): %d, %d", n, day, e)
		}
	}
}

// wantDay is P6.1 and P6.5: a time is in the bounds of its travel day, and of no other one beside it.
func wantDay(t *testing.T, n int) {
	t.Helper()
	day, e := clock.Day(n)
	if e != api.OK || !isOn(n, day) || isOn(n, day-1) || isOn(n, day+1) {
		t.Errorf("Day(%d): %d, %d", n, day, e)
	}
	for d := day - 8; d <= day+8; d++ {
		from, to := clock.Bounds(d)
		if in := n >= from && n < to; in != (d == day) {
			t.Errorf("Bounds(%d): %d, %d; Day(%d) is %d", d, from, to, n, day)
		}
	}
}

// P6.1, P6.5: the first days minute by minute, the edges, any time.
func TestDay(t *testing.T) {
	for n := range 3 * 10080 {
		wantDay(t, n)
	}
	for _, n := range someTimes() {
		wantDay(t, n)
	}
	rnd := rand.New(rand.NewSource(61))
	for range 5000 {
		wantDay(t, anyTime(rnd))
	}
}

// P6.5: a day of minutes later it is the next day, a week of them later the next week, on the same weekday.
func TestDaysFollow(t *testing.T) {
	rnd := rand.New(rand.NewSource(65))
	times := someTimes()
	for range 5000 {
		times = append(times, anyTime(rnd))
	}
	for _, n := range times {
		day, _ := clock.Day(n)
		if next, e := clock.Day(n + 1440); n+1440 <= lastTime && (next != day+1 || e != api.OK) {
			t.Errorf("Day(%d): %d, but %d, %d a day later", n, day, next, e)
		}
		next, e := clock.Day(n + 10080)
		if n+10080 <= lastTime && (clock.Week(next) != clock.Week(day)+1 || clock.Weekday(next) != clock.Weekday(day) || e != api.OK) {
			t.Errorf("Day(%d): %d, but %d, %d a week later", n, day, next, e)
		}
	}
}

// P6.2: the chapter's examples, and the edges of weeks.
func TestWeekOfTheChapter(t *testing.T) {
	for day, want := range map[int][2]int{
		-1: {-1, 6}, -2: {-1, 5}, -6: {-1, 1}, -7: {-1, 0}, -8: {-2, 6}, -14: {-2, 0}, -15: {-3, 6},
		0: {0, 0}, 1: {0, 1}, 4: {0, 4}, 5: {0, 5}, 6: {0, 6}, 7: {1, 0}, 13: {1, 6}, 14: {2, 0}, 1491307: {213043, 6},
		lastDay: {157073089682, 2}, -lastDay: {-157073089683, 5},
	} {
		if week, weekday := clock.Week(day), clock.Weekday(day); week != want[0] || weekday != want[1] {
			t.Errorf("day %d: week %d, weekday %d, not %d", day, week, weekday, want)
		}
	}
}

// P6.2: a week has the days 7 w to 7 w + 6.
func TestWeek(t *testing.T) {
	rnd := rand.New(rand.NewSource(62))
	days := someDays()
	for range 20000 {
		days = append(days, (rnd.Intn(2*lastDay+1)-lastDay)>>rnd.Intn(41))
	}
	for _, day := range days {
		week, weekday := clock.Week(day), clock.Weekday(day)
		if weekday < 0 || weekday > 6 || 7*week+weekday != day {
			t.Errorf("day %d: week %d, weekday %d", day, week, weekday)
		}
	}
}

// P6.2: of a day that is too far off nothing is told; each is asked alone.
func TestDaysTooFar(t *testing.T) {
	for _, day := range notDays() {
		if week := clock.Week(day); week != 0 {
			t.Errorf("Week(%d): %d", day, week)
		}
		if weekday := clock.Weekday(day); weekday != 0 {
			t.Errorf("Weekday(%d): %d", day, weekday)
		}
		if from, to := clock.Bounds(day); from != 0 || to != 0 {
			t.Errorf("Bounds(%d): %d, %d", day, from, to)
		}
	}
}

// P6.2: the chapter's example, and the edges.
func TestBoundsOfTheChapter(t *testing.T) {
	for day, want := range map[int][2]int{
		0: {270, 1710}, 1: {1710, 3150}, -1: {-1170, 270}, -2: {-2610, -1170}, 7: {10350, 11790}, 1491307: {2147482350, 2147483790},
		lastDay: {1583296743997710, 1583296743999150}, -lastDay: {-1583296743997170, -1583296743995730},
	} {
		if from, to := clock.Bounds(day); from != want[0] || to != want[1] {
			t.Errorf("Bounds(%d): %d, %d, not %d", day, from, to, want)
		}
	}
}

// P6.2, P6.5: bounds by the chapter's words; where a day ends the next one begins.
func TestBounds(t *testing.T) {
	for _, day := range someDays() {
		from, to := clock.Bounds(day)
		wantFrom, wantTo := slowBounds(day)
		if big.NewInt(int64(from)).Cmp(wantFrom) != 0 || big.NewInt(int64(to)).Cmp(wantTo) != 0 {
			t.Errorf("Bounds(%d): %d, %d", day, from, to)
		}
		if next, _ := clock.Bounds(day + 1); day < lastDay && next != to {
			t.Errorf("Bounds(%d): up to %d, the next one from %d on", day, to, next)
		}
	}
}

// P6.5: the first and the last minute of a day are its own, the one behind is the next one's.
func TestBoundsHoldTheirDay(t *testing.T) {
	for _, day := range []int{0, 1, 4, 5, 6, 7, 1000, 1491306} {
		from, to := clock.Bounds(day)
		for n, want := range map[int]int{from - 1: day - 1, from: day, to - 1: day, to: day + 1} {
			if got, e := clock.Day(n); got != want || e != api.OK {
				t.Errorf("Day(%d): %d, %d, not %d", n, got, e, want)
			}
		}
	}
}
