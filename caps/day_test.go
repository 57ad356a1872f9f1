package caps_test

import (
	"math/rand"
	"slices"
	"testing"

	"farebox/api"
)

// P19.1: the chapter's examples, and those of the document's whole that are days.
func TestChapterDays(t *testing.T) {
	f := ofTheChapter()
	dayIs(t, f, times(2, rail(1, 2, 300)), api.Day{Rail: 600, Capped: 600, Low: 1, High: 2})
	dayIs(t, f, times(3, rail(1, 2, 300)), api.Day{Rail: 900, Capped: 700, Low: 1, High: 2})
	dayIs(t, f, times(3, other(bus, 175)), api.Day{Bus: 400, Capped: 400})
	all := append(times(3, other(bus, 175)), rail(1, 1, 200), other(noExit, 900))
	dayIs(t, f, all, api.Day{Rail: 200, Bus: 400, Capped: 500, Most: 900, Low: 1, High: 1})
	dayIs(t, f, times(5, other(bus, 175)), api.Day{Bus: 400, Capped: 400})
	dayIs(t, f, []api.Priced{other(bus, 175), other(bus, 0)}, api.Day{Bus: 175, Capped: 175})
	dayIs(t, f, []api.Priced{other(noExit, 900)}, api.Day{Most: 900})
	late := at(1440*6+1380, rail(1, 2, 150))
	dayIs(t, f, []api.Priced{late}, api.Day{Day: 6, Rail: 150, Capped: 150, Low: 1, High: 2})
}

// P19.1, W5: of no journeys, whatever the day.
func TestNoJourneys(t *testing.T) {
	for _, f := range []api.Tariff{ofTheChapter(), zoned(), withDearBus()} {
		for _, day := range append(daysWithoutTimes(), -1, 0, 1, 6, 7, lastDay) {
			dayIs(t, f, nil, api.Day{Day: day})
			dayIs(t, f, []api.Priced{}, api.Day{Day: day})
		}
	}
}

// P19.1: each kind alone: which of the sums its fares come to, and which of the caps hold them.
func TestEachKind(t *testing.T) {
	f := zoned()
	dayIs(t, f, []api.Priced{rail(10, 30, 5)}, api.Day{Rail: 5, Capped: 5, Low: 1, High: 3})
	dayIs(t, f, []api.Priced{rail(10, 30, 5), rail(31, 11, 8)}, api.Day{Rail: 13, Capped: 13, Low: 1, High: 3})
	dayIs(t, f, []api.Priced{other(bus, 5)}, api.Day{Bus: 5, Capped: 5})
	dayIs(t, f, []api.Priced{other(bus, 5), other(bus, 8)}, api.Day{Bus: 13, Capped: 13})
	dayIs(t, f, []api.Priced{other(noExit, 5)}, api.Day{Most: 5})
	dayIs(t, f, []api.Priced{other(noEntry, 5)}, api.Day{Most: 5})
	dayIs(t, f, []api.Priced{other(noExit, 5), other(noEntry, 8), other(noExit, 1)}, api.Day{Most: 14})
	for _, l := range [][]api.Priced{times(2000, other(noExit, maxFare)), times(2000, other(noEntry, maxFare))} {
		dayIs(t, f, l, api.Day{Most: 2000 * maxFare})
	}
	dayIs(t, f, times(2000, rail(10, 90, maxFare)), api.Day{Rail: 2000 * maxFare, Capped: dailyOf(1, 9), Low: 1, High: 9})
	dayIs(t, f, times(2000, other(bus, maxFare)), api.Day{Bus: 403, Capped: 403})
}

// P19.1: all kinds together, in any order.
func TestAllKinds(t *testing.T) {
	rnd := rand.New(rand.NewSource(191))
	f := zoned()
	l := []api.Priced{rail(40, 50, 1000), rail(20, 21, 300), other(bus, 170), other(bus, 170), other(bus, 170), other(noExit, 907), other(noEntry, 77), other(bus, 0), rail(31, 30, 0)}
	want := api.Day{Rail: 1300, Bus: 403, Capped: 1703, Most: 984, Low: 2, High: 5}
	for range 100 {
		dayIs(t, f, l, want)
		rnd.Shuffle(len(l), func(i, k int) { l[i], l[k] = l[k], l[i] })
	}
	l = append(l, rail(50, 40, dailyOf(2, 5)))
	want.Rail += dailyOf(2, 5)
	want.Capped = dailyOf(2, 5)
	for range 100 {
		dayIs(t, f, l, want)
		rnd.Shuffle(len(l), func(i, k int) { l[i], l[k] = l[k], l[i] })
	}
}

// P19.1: rides and other journeys without whole ones: no zones, and no cap of any.
func TestWithoutWholeOnes(t *testing.T) {
	for _, f := range []api.Tariff{withDearBus(), with(func(f *api.Tariff) {
		f.BusDaily = 800
		for i := range f.Spans {
			f.Spans[i].Daily, f.Spans[i].Weekly = 0, 0
		}
	})} {
		dayIs(t, f, times(4, other(bus, 175)), api.Day{Bus: 700, Capped: 700})
		dayIs(t, f, times(5, other(bus, 175)), api.Day{Bus: 800, Capped: 800})
		dayIs(t, f, []api.Priced{other(noExit, 900), other(bus, 750), other(noEntry, 900)}, api.Day{Bus: 750, Capped: 750, Most: 1800})
		dayIs(t, f, times(9, other(noEntry, 900)), api.Day{Most: 8100})
	}
}

// P19.1: a Bus below, at and above BusDaily, by one ride and by several.
func TestBusDaily(t *testing.T) {
	for _, most := range []int{0, 1, 2, 400, maxFare - 1, maxFare} {
		f := with(func(f *api.Tariff) { f.BusDaily = most })
		for _, n := range []int{most - 1, most, most + 1} {
			if n < 0 {
				continue
			}
			want := api.Day{Bus: min(n, most), Capped: min(n, most)}
			dayIs(t, f, []api.Priced{other(bus, n/2), other(bus, n-n/2)}, want)
			dayIs(t, f, []api.Priced{other(bus, 0), other(bus, n/3), other(bus, n/3), other(bus, n-2*(n/3))}, want)
			if n <= maxFare {
				dayIs(t, f, []api.Priced{other(bus, n)}, want)
			}
		}
	}
}

// P19.1: Rail and Bus below, at and above the Daily of the span.
func TestDaily(t *testing.T) {
	f := ofTheChapter()
	for _, x := range []struct{ from, to, low, high, daily int }{{1, 1, 1, 1, 500}, {2, 2, 2, 2, 500}, {1, 2, 1, 2, 700}, {2, 1, 1, 2, 700}} {
		for _, rides := range []int{0, 1, 399, 400, 401} {
			for _, n := range []int{0, 1, x.daily - rides - 1, x.daily - rides, x.daily - rides + 1, x.daily - 1, x.daily, x.daily + 1, maxFare} {
				held := min(rides, 400)
				want := api.Day{Rail: n, Bus: held, Capped: min(n+held, x.daily), Low: x.low, High: x.high}
				dayIs(t, f, []api.Priced{rail(x.from, x.to, n), other(bus, rides)}, want)
				dayIs(t, f, []api.Priced{other(bus, rides/2), rail(x.to, x.from, n-n/2), other(bus, rides-rides/2), rail(x.from, x.to, n/2)}, want)
			}
		}
	}
}

// P19.1: a Bus at the Daily of the span, one below, and above it: Capped is then the Bus, however little the rail costs.
func TestBusAboveDaily(t *testing.T) {
	f := withDearBus()
	for _, n := range []int{0, 1, 100, 500, 10000} {
		for _, x := range []struct{ rides, bus, capped int }{{498, 498, min(498+n, 500)}, {499, 499, min(499+n, 500)}, {500, 500, 500}, {501, 501, 501}, {799, 799, 799}, {800, 800, 800}, {801, 800, 800}, {5000, 800, 800}} {
			dayIs(t, f, []api.Priced{rail(1, 1, n), other(bus, x.rides)}, api.Day{Rail: n, Bus: x.bus, Capped: x.capped, Low: 1, High: 1})
			dayIs(t, f, []api.Priced{other(bus, x.rides), rail(2, 2, n)}, api.Day{Rail: n, Bus: x.bus, Capped: x.capped, Low: 2, High: 2})
		}
		dayIs(t, f, []api.Priced{rail(1, 2, n), other(bus, 701)}, api.Day{Rail: n, Bus: 701, Capped: 701, Low: 1, High: 2})
	}
	none := with(func(f *api.Tariff) {
		for i := range f.Spans {
			f.Spans[i].Daily = 0
		}
	})
	dayIs(t, none, []api.Priced{rail(1, 2, 300)}, api.Day{Rail: 300, Low: 1, High: 2})
	dayIs(t, none, []api.Priced{rail(1, 2, 300), other(bus, 5)}, api.Day{Rail: 300, Bus: 5, Capped: 5, Low: 1, High: 2})
}

// P19.1: journeys that are not whole are beside all caps, and no place of theirs is asked.
func TestMostIsBesides(t *testing.T) {
	f := ofTheChapter()
	for _, kind := range []int{noExit, noEntry} {
		for _, place := range append(notStations(), 1, 2) {
			for _, fare := range []int{0, 1, 900, maxFare} {
				p := priced(kind, place, place, 480, fare)
				dayIs(t, f, []api.Priced{p}, api.Day{Most: fare})
				dayIs(t, f, append(times(3, rail(1, 1, 200)), p), api.Day{Rail: 600, Capped: 500, Most: fare, Low: 1, High: 1})
				dayIs(t, f, append(times(3, other(bus, 175)), p, p), api.Day{Bus: 400, Capped: 400, Most: 2 * fare})
			}
		}
	}
	for _, place := range append(notStations(), 1, 2) {
		dayIs(t, f, []api.Priced{priced(bus, place, place, 480, 175), rail(1, 1, 200)}, api.Day{Rail: 200, Bus: 175, Capped: 375, Low: 1, High: 1})
	}
}

// P19.1: whole journeys within one zone, and between any two, there and back.
func TestZones(t *testing.T) {
	f := zoned()
	for _, a := range f.Stations {
		for _, b := range f.Stations {
			low, high := min(a.Zone, b.Zone), max(a.Zone, b.Zone)
			daily := dailyOf(low, high)
			for _, n := range []int{0, 1, daily - 1, daily, daily + 1} {
				dayIs(t, f, []api.Priced{rail(a.Id, b.Id, n)}, api.Day{Rail: n, Capped: min(n, daily), Low: low, High: high})
			}
		}
	}
}

// P19.1: several journeys reach as far as all of them together, the wider one first and last, also such as have no zone in common, and free ones.
func TestSeveralZones(t *testing.T) {
	f := zoned()
	for _, x := range []struct {
		from, to  [3]int
		low, high int
	}{
		{[3]int{20, 30, 30}, [3]int{60, 31, 40}, 2, 6}, {[3]int{30, 30, 20}, [3]int{31, 40, 60}, 2, 6}, {[3]int{30, 60, 30}, [3]int{31, 20, 40}, 2, 6},
		{[3]int{10, 50, 90}, [3]int{11, 51, 91}, 1, 9}, {[3]int{90, 50, 10}, [3]int{91, 51, 11}, 1, 9}, {[3]int{50, 10, 90}, [3]int{51, 11, 91}, 1, 9},
		{[3]int{30, 40, 50}, [3]int{40, 50, 60}, 3, 6}, {[3]int{60, 50, 40}, [3]int{50, 40, 30}, 3, 6}, {[3]int{70, 70, 71}, [3]int{71, 70, 70}, 7, 7}, {[3]int{90, 81, 90}, [3]int{90, 81, 80}, 8, 9}, {[3]int{20, 11, 10}, [3]int{20, 10, 11}, 1, 2},
	} {
		for _, n := range []int{0, 1, 1000, maxFare} {
			l := []api.Priced{rail(x.from[0], x.to[0], n), rail(x.from[1], x.to[1], n), rail(x.from[2], x.to[2], n)}
			dayIs(t, f, l, api.Day{Rail: 3 * n, Capped: min(3*n, dailyOf(x.low, x.high)), Low: x.low, High: x.high})
			l = append(l, other(bus, 403), other(noExit, 5), other(noEntry, 6))
			dayIs(t, f, l, api.Day{Rail: 3 * n, Bus: 403, Capped: min(3*n+403, dailyOf(x.low, x.high)), Most: 11, Low: x.low, High: x.high})
		}
	}
}

// P19.1: fares are taken as they stand: not as chapter 18 has them, not by Free, and whatever End is.
func TestFaresAsTheyStand(t *testing.T) {
	f := ofTheChapter()
	free := other(bus, 175)
	free.Journey.Free = true
	dayIs(t, f, []api.Priced{free}, api.Day{Bus: 175, Capped: 175})
	freeRail := rail(1, 2, 17)
	freeRail.Journey.Free = true
	dayIs(t, f, []api.Priced{freeRail, other(noExit, 3)}, api.Day{Rail: 17, Capped: 17, Most: 3, Low: 1, High: 2})
	for _, end := range append(notTimes(), 0, 479, 1710, maxTime) {
		for kind, want := range map[int]api.Day{whole: {Rail: 9, Capped: 9, Low: 1, High: 2}, noExit: {Most: 9}, noEntry: {Most: 9}, bus: {Bus: 9, Capped: 9}} {
			p := priced(kind, 1, 2, 480, 9)
			p.Journey.End = end
			dayIs(t, f, []api.Priced{p}, want)
		}
	}
}

// P19.1: a tariff that may not be, whatever the day and its journeys.
func TestWrongTariffs(t *testing.T) {
	for _, x := range wrongTariffs() {
		for _, l := range [][]api.Priced{nil, {rail(1, 2, 300)}, {other(5, 1)}, {other(bus, -1)}, {at(0, other(bus, 1))}, {rail(3, 1, 1)}, make([]api.Priced, 2001), times(2000, rail(1, 2, 300))} {
			for _, day := range []int{0, -1, -2, maxTotal + 1} {
				dayFails(t, x.tariff, day, l, x.want)
			}
		}
	}
}

// P19.1: as many journeys as there may be, one more, and many more, wrong ones too.
func TestHowManyJourneys(t *testing.T) {
	f := ofTheChapter()
	dayIs(t, f, times(1999, rail(1, 1, 1)), api.Day{Rail: 1999, Capped: 500, Low: 1, High: 1})
	dayIs(t, f, times(2000, rail(1, 1, 1)), api.Day{Rail: 2000, Capped: 500, Low: 1, High: 1})
	dayIs(t, f, times(2000, other(noEntry, 1)), api.Day{Most: 2000})
	for _, many := range []int{2001, 2002, 4000, 65536 + 5, 1 << 20} {
		dayFails(t, f, 0, times(many, rail(1, 1, 1)), api.ErrLong)
		dayFails(t, f, 0, make([]api.Priced, many), api.ErrLong)
	}
	dayFails(t, f, 0, make([]api.Priced, 2000), api.ErrArg)
	for _, p := range wrongJourneys() {
		l := times(2001, rail(1, 1, 1))
		for _, i := range []int{0, 1000, 2000} {
			l[i] = p.journey
			dayFails(t, f, 0, l, api.ErrLong)
			dayFails(t, f, maxTotal, l, api.ErrLong)
		}
	}
	if api.MaxTaps != 2000 {
		t.Error("MaxTaps:", api.MaxTaps)
	}
}

// P19.1: what is none of the four kinds, ahead of all else that may be wrong with a journey.
func TestKinds(t *testing.T) {
	f := ofTheChapter()
	for _, kind := range notKinds() {
		for _, p := range []api.Priced{other(kind, 1), rail(1, 2, 300), other(kind, -1), other(kind, maxFare+1), at(0, other(kind, 1)), at(-1, other(kind, -1)), {}, rail(3, 4, -1)} {
			p.Journey.Kind = kind
			dayFails(t, f, 0, []api.Priced{p}, api.ErrArg)
			dayFails(t, f, maxTotal, []api.Priced{p}, api.ErrArg)
		}
	}
	for kind := whole; kind <= bus; kind++ {
		if _, e := dayOf(t, f, 0, []api.Priced{priced(kind, 1, 2, 480, 9)}); e != api.OK {
			t.Error(kind, e)
		}
	}
}

// P19.1: fares of 0, MaxFare, and beside them, of each kind; a fare that is no price comes ahead of the Start and of the stations.
func TestFares(t *testing.T) {
	f := ofTheChapter()
	for kind, want := range map[int]func(n int) api.Day{
		whole:   func(n int) api.Day { return api.Day{Rail: n, Capped: min(n, 700), Low: 1, High: 2} },
		noExit:  func(n int) api.Day { return api.Day{Most: n} },
		noEntry: func(n int) api.Day { return api.Day{Most: n} },
		bus:     func(n int) api.Day { return api.Day{Bus: min(n, 400), Capped: min(n, 400)} },
	} {
		for _, n := range []int{0, 1, 2, 300, maxFare - 1, maxFare} {
			dayIs(t, f, []api.Priced{priced(kind, 1, 2, 480, n)}, want(n))
		}
		for _, n := range notPrices() {
			dayFails(t, f, 0, []api.Priced{priced(kind, 1, 2, 480, n)}, api.ErrMoney)
			dayFails(t, f, 0, []api.Priced{priced(kind, 1, 2, 0, n)}, api.ErrMoney)
			dayFails(t, f, 0, []api.Priced{priced(kind, 3, 4, -1, n)}, api.ErrMoney)
			dayFails(t, f, maxTotal, []api.Priced{priced(kind, 3, 4, 480, n)}, api.ErrMoney)
			dayFails(t, f, 0, []api.Priced{other(noExit, maxFare), priced(kind, 1, 2, 480, n)}, api.ErrMoney)
		}
	}
}

// P19.1: a Start in the first and the last minute of the travel day, one minute beside them, one that is no time; it comes ahead of the stations.
func TestStarts(t *testing.T) {
	f := ofTheChapter()
	for _, day := range []int{-1, 0, 1, 5, 6, 7, 8, 100, lastDay - 1, lastDay} {
		first := 1440*day + 270
		for kind := whole; kind <= bus; kind++ {
			one := func(start int) []api.Priced { return []api.Priced{priced(kind, 1, 2, start, 0)} }
			low, high := 0, 0
			if kind == whole {
				low, high = 1, 2
			}
			for _, start := range []int{first, first + 1, first + 720, first + 1438, first + 1439} {
				if start >= 0 && start <= maxTime {
					dayIs(t, f, one(start), api.Day{Day: day, Low: low, High: high})
				} else {
					dayFails(t, f, day, one(start), api.ErrTime)
				}
			}
			for _, start := range append(notTimes(), first-1440, first-2, first-1, first+1440, first+1441, first+2880, first+10080) {
				dayFails(t, f, day, one(start), api.ErrTime)
				dayFails(t, f, day, []api.Priced{priced(kind, 3, 1, start, 0)}, api.ErrTime)
				dayFails(t, f, day, []api.Priced{priced(kind, 1, 3, start, 0)}, api.ErrTime)
			}
		}
	}
	dayIs(t, f, []api.Priced{at(0, other(bus, 5)), at(269, other(bus, 6))}, api.Day{Day: -1, Bus: 11, Capped: 11})
	dayIs(t, f, []api.Priced{at(maxTime, other(bus, 5))}, api.Day{Day: lastDay, Bus: 5, Capped: 5})
}

// P19.1: on a day that no time lies on there is no journey; what is no time has no day, not even the one that a 0 would mean.
func TestDaysWithoutTimes(t *testing.T) {
	f := ofTheChapter()
	starts := append(notTimes(), 0, 269, 270, 480, 1709, 1710, maxTime-1, maxTime)
	for _, day := range daysWithoutTimes() {
		for _, start := range append(starts, 1440*day+270, 1440*day+480, 1440*day+1709) {
			dayFails(t, f, day, []api.Priced{at(start, other(bus, 1))}, api.ErrTime)
			dayFails(t, f, day, []api.Priced{at(start, rail(1, 2, 1))}, api.ErrTime)
		}
	}
	for _, start := range notTimes() {
		for _, day := range []int{-2, -1, 0, 1, lastDay, lastDay + 1} {
			dayFails(t, f, day, []api.Priced{at(start, other(bus, 1))}, api.ErrTime)
		}
	}
}

// P19.1: whole journeys of which the tariff has no station From, none To, neither.
func TestStations(t *testing.T) {
	f := ofTheChapter()
	for _, place := range notStations() {
		for _, x := range [][2]int{{place, 1}, {place, 2}, {1, place}, {2, place}, {place, place}, {place, 3}, {3, place}} {
			dayFails(t, f, 0, []api.Priced{rail(x[0], x[1], 300)}, api.ErrArg)
			dayFails(t, f, 0, []api.Priced{rail(1, 2, 300), rail(x[0], x[1], 0)}, api.ErrArg)
			dayFails(t, f, 0, []api.Priced{rail(x[0], x[1], -1)}, api.ErrMoney)
			dayFails(t, f, 0, []api.Priced{at(269, rail(x[0], x[1], 300))}, api.ErrTime)
		}
	}
	for _, l := range [][]api.Station{nil, {}} {
		none := with(func(f *api.Tariff) { f.Stations, f.Spans = l, f.Spans[:1] })
		dayFails(t, none, 0, []api.Priced{rail(1, 1, 5)}, api.ErrArg)
		dayFails(t, none, 0, []api.Priced{rail(0, 0, 5)}, api.ErrArg)
		dayIs(t, none, []api.Priced{other(noExit, 5), other(bus, 6)}, api.Day{Bus: 6, Capped: 6, Most: 5})
	}
}

// wrongJourney is one that may not be on day 0, by the chapter's tariff.
type wrongJourney struct {
	journey api.Priced
	want    api.Errno
}

func wrongJourneys() []wrongJourney {
	return []wrongJourney{
		{api.Priced{}, api.ErrArg}, {other(5, 1), api.ErrArg}, {other(-1, 1), api.ErrArg},
		{other(bus, -1), api.ErrMoney}, {other(noExit, maxFare+1), api.ErrMoney}, {rail(1, 2, -1), api.ErrMoney}, {rail(3, 1, -1), api.ErrMoney},
		{at(269, other(bus, 1)), api.ErrTime}, {at(1710, other(noEntry, 1)), api.ErrTime}, {at(-1, rail(1, 2, 1)), api.ErrTime}, {at(0, rail(1, 3, 1)), api.ErrTime},
		{rail(3, 1, 1), api.ErrArg}, {rail(1, 3, 1), api.ErrArg}, {rail(3, 3, 0), api.ErrArg},
	}
}

// P19.1, W4: of several things wrong with one journey: each choice of them.
func TestFirstError(t *testing.T) {
	f := ofTheChapter()
	for choice := range 16 {
		p, want := rail(1, 2, 300), api.OK
		if choice&8 != 0 {
			p.Journey.To, want = 3, api.ErrArg
		}
		if choice&4 != 0 {
			p.Journey.Start, want = 1710, api.ErrTime
		}
		if choice&2 != 0 {
			p.Fare, want = -1, api.ErrMoney
		}
		if choice&1 != 0 {
			p.Journey.Kind, want = 5, api.ErrArg
		}
		if want == api.OK {
			continue
		}
		dayFails(t, f, 0, []api.Priced{p}, want)
		dayFails(t, f, 0, append(times(1999, rail(1, 1, 1)), p), want)
	}
}

// P19.1, W4: the first error of several journeys, at each place; every other answer is zero.
func TestFirstJourney(t *testing.T) {
	f := ofTheChapter()
	for _, many := range []int{1, 2, 3, 7} {
		for i := range many {
			for _, x := range wrongJourneys() {
				l := times(many, rail(1, 2, 300))
				l[i] = x.journey
				dayFails(t, f, 0, l, x.want)
				for k := i + 1; k < many; k++ {
					for _, y := range wrongJourneys() {
						m := slices.Clone(l)
						m[k] = y.journey
						dayFails(t, f, 0, m, x.want)
					}
				}
			}
		}
	}
}

// P19.1: any day of up to three journeys of few kinds and fares, by a small tariff with any caps.
func TestEverySmallDay(t *testing.T) {
	var some []api.Priced
	for _, fare := range []int{0, 1, 3} {
		some = append(some, rail(1, 1, fare), rail(2, 1, fare), rail(2, 2, fare), other(bus, fare), other(noEntry, fare))
	}
	for c := range 3 * 3 * 5 {
		f := with(func(f *api.Tariff) {
			f.BusDaily = []int{0, 1, 2, 4, 9}[c%5]
			f.Spans[0].Daily, f.Spans[1].Daily, f.Spans[2].Daily = c/5%3, c/5%3+c/15, c/5%3/2
		})
		for _, a := range some {
			dayOf(t, f, 0, []api.Priced{a})
			for _, b := range some {
				dayOf(t, f, 0, []api.Priced{a, b})
				for _, c := range some {
					dayOf(t, f, 0, []api.Priced{a, b, c})
				}
			}
		}
	}
}

// P19.1: any day, by any tariff that may be.
func TestAnyDay(t *testing.T) {
	rnd := rand.New(rand.NewSource(192))
	errors := map[api.Errno]int{}
	for range 3000 {
		f := someTariff(rnd)
		for range 10 {
			day := someDayNumber(rnd)
			l := someJourneys(rnd, f, day, 15)
			for rnd.Intn(3) == 0 && len(l) > 0 {
				i := rnd.Intn(len(l))
				l[i] = spoilt(rnd, l[i])
			}
			_, e := dayOf(t, f, day, l)
			errors[e]++
		}
	}
	if errors[api.OK] < 10000 || errors[api.ErrArg] < 1000 || errors[api.ErrMoney] < 500 || errors[api.ErrTime] < 1000 {
		t.Error("only so many:", errors)
	}
}
