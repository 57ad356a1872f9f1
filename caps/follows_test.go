package caps_test

import (
	"math/rand"
	"slices"
	"testing"

	"farebox/api"
	"farebox/caps"
)

// someWeek are days by their journeys: from none to all seven of a week, by a tariff.
func someWeek(rnd *rand.Rand, f api.Tariff, many int) [][]api.Priced {
	l := make([][]api.Priced, 7)
	for i := range l {
		if rnd.Intn(4) > 0 {
			l[i] = someJourneys(rnd, f, i, many)
		}
	}
	return l
}

// daysOf are a week's days; each of them is held against P19.4.
func daysOf(t *testing.T, f api.Tariff, week [][]api.Priced) []api.Day {
	t.Helper()
	var l []api.Day
	for day, journeys := range week {
		d, e := caps.Day(f, day, journeys)
		if e != api.OK {
			t.Fatal(journeys, e)
		}
		if d.Capped > d.Rail+d.Bus || d.Capped > max(capOf(f, d.Low, d.High, true), f.BusDaily) {
			t.Fatalf("%v: Capped is too much; %v", d, f)
		}
		l = append(l, d)
	}
	return l
}

// capOf is the Daily of zones, or their Weekly; 0, if there are none.
func capOf(f api.Tariff, low, high int, isDaily bool) int {
	for _, s := range slowSpan(f, low, high) {
		if isDaily {
			return s.Daily
		}
		return s.Weekly
	}
	return 0
}

// comesTo is what days come to as a week; it is held against P19.4.
func comesTo(t *testing.T, f api.Tariff, l []api.Day) int {
	t.Helper()
	n, e := caps.Week(f, l)
	if e != api.OK {
		t.Fatal(l, e)
	}
	capped, most := 0, 0
	var zones []int
	for _, d := range l {
		capped, most = capped+d.Capped, most+d.Most
		zones = append(zones, d.Low, d.High)
	}
	low, high := slowEnds(zones)
	if n > capped+most || n > max(capOf(f, low, high, false), f.BusWeekly)+most {
		t.Fatalf("%d of %v: too much; %v", n, l, f)
	}
	return n
}

// P19.4: many tariffs, days and weeks.
func TestCapped(t *testing.T) {
	rnd := rand.New(rand.NewSource(196))
	held := 0
	for range 10000 {
		f := someTariff(rnd)
		l := slices.DeleteFunc(daysOf(t, f, someWeek(rnd, f, 8)), func(d api.Day) bool { return rnd.Intn(5) == 0 })
		sum := 0
		for _, d := range l {
			sum += d.Capped + d.Most
		}
		if comesTo(t, f, l) < sum {
			held++
		}
	}
	if held < 1000 {
		t.Error("only so many weeks are held by their caps:", held)
	}
}

// P19.4: caps and fares of 0 and of MaxFare, between any two zones.
func TestCappedAtTheLimits(t *testing.T) {
	for _, n := range []int{0, 1, maxFare - 1, maxFare} {
		for _, buses := range []int{0, 1, maxFare - 1, maxFare} {
			f := zoned()
			f.BusDaily, f.BusWeekly = buses, buses
			for i := range f.Spans {
				f.Spans[i].Daily, f.Spans[i].Weekly = n, n
			}
			for from := 10; from <= 90; from += 10 {
				for to := 10; to <= 90; to += 10 {
					for _, fare := range []int{0, 1, maxFare - 1, maxFare} {
						day := []api.Priced{rail(from, to, fare), other(bus, fare), rail(to, from, fare), other(noExit, fare)}
						comesTo(t, f, daysOf(t, f, [][]api.Priced{day}))
					}
				}
			}
		}
	}
}

// changed is a week with other journeys on one of its days.
func changed(week [][]api.Priced, day int, change func(l []api.Priced) []api.Priced) [][]api.Priced {
	week = slices.Clone(week)
	week[day] = change(slices.Clone(week[day]))
	return week
}

// isNoMore holds P19.5: days and a week come to no more than others, day by day.
func isNoMore(t *testing.T, f api.Tariff, less, more [][]api.Priced) {
	t.Helper()
	a, b := daysOf(t, f, less), daysOf(t, f, more)
	for i := range a {
		if a[i].Capped > b[i].Capped || a[i].Most > b[i].Most {
			t.Fatalf("%v of %v, %v of %v; %v", a[i], less[i], b[i], more[i], f)
		}
	}
	if a, b := comesTo(t, f, a), comesTo(t, f, b); a > b {
		t.Fatalf("%d of %v, %d of %v; %v", a, less, b, more, f)
	}
}

// P19.5: the fare of a journey that is no ride is less, at each place.
func TestFareLess(t *testing.T) {
	rnd := rand.New(rand.NewSource(197))
	for range 500 {
		f := someTariff(rnd)
		week := someWeek(rnd, f, 4)
		for day, l := range week {
			for i, p := range l {
				if p.Journey.Kind == bus {
					continue
				}
				for _, fare := range []int{0, p.Fare / 2, p.Fare - 1} {
					isNoMore(t, f, changed(week, day, func(l []api.Priced) []api.Priced {
						l[i].Fare = max(0, fare)
						return l
					}), week)
				}
			}
		}
	}
}

// P19.5: another journey besides that is no ride, at each place.
func TestJourneyBesides(t *testing.T) {
	rnd := rand.New(rand.NewSource(198))
	for range 500 {
		f := someTariff(rnd)
		week := someWeek(rnd, f, 4)
		for day, l := range week {
			for i := range len(l) + 1 {
				p := someJourney(rnd, f, day)
				if p.Journey.Kind == bus {
					p.Journey.Kind = noExit + rnd.Intn(2)
				}
				isNoMore(t, f, week, changed(week, day, func(l []api.Priced) []api.Priced {
					return slices.Insert(l, i, p)
				}))
			}
		}
	}
}

// FuzzDay looks for days of two journeys that come to something else than the chapter tells.
func FuzzDay(f *testing.F) {
	f.Add(0, 1, 10, 20, 480, 300, 4, 9, 9, 490, 175, uint16(700), uint16(400))
	f.Add(-1, 2, 9, 9, 0, 900, 3, 9, 9, 269, 1<<20, uint16(0), uint16(0))
	f.Add(0, 1, 10, 0, 480, 1, 5, 9, 9, 0, -1, uint16(1), uint16(65535))
	f.Add(1491307, 1, 90, 91, 1<<31, 1<<20+1, 4, 9, 9, 1<<31+1, 0, uint16(1), uint16(65535))
	f.Fuzz(func(t *testing.T, day, kind1, from1, to1, start1, fare1, kind2, from2, to2, start2, fare2 int, daily, busDaily uint16) {
		p := zoned()
		p.BusDaily = int(busDaily)
		for i := range p.Spans {
			p.Spans[i].Daily = int(daily)
		}
		one, two := priced(kind1, from1, to1, start1, fare1), priced(kind2, from2, to2, start2, fare2)
		for _, l := range [][]api.Priced{nil, {one}, {two}, {one, two}, {two, one}} {
			dayOf(t, p, day, l)
		}
	})
}

// FuzzWeek looks for weeks of two days that come to something else than the chapter tells.
func FuzzWeek(f *testing.F) {
	f.Add(0, 300, 175, 475, 900, 1, 2, 1, 0, 400, 400, 0, 0, 0, uint16(2800), uint16(1500))
	f.Add(6, 0, 0, 0, 0, 0, 0, 7, 0, 0, 0, 0, 0, 0, uint16(0), uint16(0))
	f.Add(-1, 1<<40, 1<<40, 1<<40, 1<<40, 9, 9, 1<<40, 1, 2, 1, -1, 3, 2, uint16(1), uint16(65535))
	f.Fuzz(func(t *testing.T, day1, rail1, bus1, capped1, most1, low1, high1, day2, rail2, bus2, capped2, most2, low2, high2 int, weekly, busWeekly uint16) {
		p := zoned()
		p.BusWeekly = int(busWeekly)
		for i := range p.Spans {
			p.Spans[i].Weekly = int(weekly)
		}
		one := api.Day{Day: day1, Rail: rail1, Bus: bus1, Capped: capped1, Most: most1, Low: low1, High: high1}
		two := api.Day{Day: day2, Rail: rail2, Bus: bus2, Capped: capped2, Most: most2, Low: low2, High: high2}
		for _, l := range [][]api.Day{nil, {one}, {two}, {one, two}, {two, one}} {
			weekOf(t, p, l)
		}
	})
}
