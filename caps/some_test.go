package caps_test

import (
	"math"
	"math/rand"
	"testing"

	"farebox/api"
	"farebox/caps"
)

const (
	whole, noExit, noEntry, bus = api.JourneyWhole, api.JourneyNoExit, api.JourneyNoEntry, api.JourneyBus

	maxTime  = 1 << 31
	maxFare  = 1 << 20
	maxTotal = 1 << 40

	// lastDay is the travel day of maxTime.
	lastDay = 1491307
)

// ofTheChapter is the tariff of the chapter's examples.
func ofTheChapter() api.Tariff {
	return api.Tariff{
		Stations: []api.Station{{Id: 1, Zone: 1}, {Id: 2, Zone: 2, Group: 7}},
		Spans: []api.Span{
			{From: 1, To: 1, Single: 200, Daily: 500, Weekly: 2000},
			{From: 1, To: 2, Single: 300, Daily: 700, Weekly: 2800},
			{From: 2, To: 2, Single: 150, Daily: 500, Weekly: 2000},
		},
		Off: 0.5, Bus: 175, BusDaily: 400, BusWeekly: 1500, Most: 900, Longest: 120,
	}
}

// zoned is a tariff of nine zones in which no two numbers are alike, with two stations in each zone: 10 and 11 in zone 1, 20 and 21 in zone 2, and so on.
func zoned() api.Tariff {
	t := api.Tariff{Peak: []api.Band{{From: 390, To: 570}}, Off: 1.0 / 3, Bus: 171, BusDaily: 403, BusWeekly: 1507, Hopper: 61, Most: 907, Longest: 121, Change: 11, Passback: 7, Delay: 17, Threshold: 101}
	for zone := 1; zone <= 9; zone++ {
		t.Stations = append(t.Stations, api.Station{Id: 10 * zone, Zone: zone, Group: zone + 70}, api.Station{Id: 10*zone + 1, Zone: zone})
		for to := zone; to <= 9; to++ {
			single := 1000*(to-zone+1) + 10*zone + to
			t.Spans = append(t.Spans, api.Span{From: zone, To: to, Single: single, Daily: dailyOf(zone, to), Weekly: weeklyOf(zone, to)})
		}
	}
	return t
}

// dailyOf and weeklyOf are the caps of zoned.
func dailyOf(low, high int) int { return 3000*(high-low+1) + 30*low + 3*high + 1 }

func weeklyOf(low, high int) int { return 13000*(high-low+1) + 130*low + 13*high + 2 }

// with is the chapter's tariff, changed.
func with(change func(f *api.Tariff)) api.Tariff {
	f := ofTheChapter()
	change(&f)
	return f
}

// withDearBus is the chapter's tariff with caps for buses above those of all zones.
func withDearBus() api.Tariff {
	return with(func(f *api.Tariff) { f.BusDaily, f.BusWeekly = 800, 3000 })
}

// priced is a journey of a kind from a place to another one that begins at a time, with its fare.
func priced(kind, from, to, start, fare int) api.Priced {
	return api.Priced{Journey: api.Journey{Kind: kind, From: from, To: to, Start: start, End: start}, Fare: fare}
}

// rail is a whole journey on day 0.
func rail(from, to, fare int) api.Priced { return priced(whole, from, to, 480, fare) }

// other is a journey of another kind on day 0, where the tariff has no station.
func other(kind, fare int) api.Priced { return priced(kind, 99, 99, 480, fare) }

// times is a journey so many times.
func times(many int, p api.Priced) []api.Priced {
	l := make([]api.Priced, many)
	for i := range l {
		l[i] = p
	}
	return l
}

// at is the same journey from another time on.
func at(start int, p api.Priced) api.Priced {
	p.Journey.Start = start
	return p
}

// dayOf asks what a day comes to, and holds it against the chapter told slowly.
func dayOf(t *testing.T, f api.Tariff, day int, l []api.Priced) (api.Day, api.Errno) {
	t.Helper()
	got, e := caps.Day(f, day, l)
	if want, wantE := slowDay(f, day, l); got != want || e != wantE {
		if len(l) > 30 {
			l = l[:30]
		}
		t.Fatalf("Day %d of %v ..: %v, %d, not %v, %d; %v", day, l, got, e, want, wantE, f)
	}
	return got, e
}

func dayIs(t *testing.T, f api.Tariff, l []api.Priced, want api.Day) {
	t.Helper()
	if got, e := dayOf(t, f, want.Day, l); got != want || e != api.OK {
		t.Errorf("Day of %v: %v, %d, not %v", l, got, e, want)
	}
}

func dayFails(t *testing.T, f api.Tariff, day int, l []api.Priced, want api.Errno) {
	t.Helper()
	if got, e := dayOf(t, f, day, l); got != (api.Day{}) || e != want {
		t.Errorf("Day %d of %d journeys: %v, %d, not %d", day, len(l), got, e, want)
	}
}

// weekOf asks what a week comes to, and holds it against the chapter told slowly.
func weekOf(t *testing.T, f api.Tariff, l []api.Day) (int, api.Errno) {
	t.Helper()
	got, e := caps.Week(f, l)
	if want, wantE := slowWeek(f, l); got != want || e != wantE {
		t.Fatalf("Week of %v: %d, %d, not %d, %d; %v", l, got, e, want, wantE, f)
	}
	return got, e
}

func weekIs(t *testing.T, f api.Tariff, l []api.Day, want int) {
	t.Helper()
	if got, e := weekOf(t, f, l); got != want || e != api.OK {
		t.Errorf("Week of %v: %d, %d, not %d", l, got, e, want)
	}
}

func weekFails(t *testing.T, f api.Tariff, l []api.Day, want api.Errno) {
	t.Helper()
	if got, e := weekOf(t, f, l); got != 0 || e != want {
		t.Errorf("Week of %v: %d, %d, not %d", l, got, e, want)
	}
}

// buses is a day of rides alone.
func buses(day, n int) api.Day { return api.Day{Day: day, Bus: n, Capped: n} }

// byRail is a day of whole journeys alone.
func byRail(day, n, low, high int) api.Day {
	return api.Day{Day: day, Rail: n, Capped: n, Low: low, High: high}
}

// both is a day of rides and of whole journeys, by what it came to.
func both(day, bus, capped, low, high int) api.Day {
	return api.Day{Day: day, Rail: capped - bus, Bus: bus, Capped: capped, Low: low, High: high}
}

type wrongTariff struct {
	tariff api.Tariff
	want   api.Errno
}

// wrongTariffs are such as may not be, by each of chapter 7's looks.
func wrongTariffs() []wrongTariff {
	var l []wrongTariff
	wrong := func(want api.Errno, change func(*api.Tariff)) {
		l = append(l, wrongTariff{with(change), want})
	}
	wrong(api.ErrTariff, func(f *api.Tariff) { *f = api.Tariff{} })
	wrong(api.ErrTariff, func(f *api.Tariff) { f.Stations = make([]api.Station, 201) })
	wrong(api.ErrTariff, func(f *api.Tariff) { f.Stations[1].Id = 1 })
	wrong(api.ErrTariff, func(f *api.Tariff) { f.Stations[1].Id = 65536 })
	wrong(api.ErrTariff, func(f *api.Tariff) { f.Stations[0].Zone = 0 })
	wrong(api.ErrTariff, func(f *api.Tariff) { f.Stations[0].Group = 65536 })
	wrong(api.ErrTariff, func(f *api.Tariff) { f.Spans = f.Spans[:2] })
	wrong(api.ErrTariff, func(f *api.Tariff) { f.Spans[0], f.Spans[2] = f.Spans[2], f.Spans[0] })
	wrong(api.ErrMoney, func(f *api.Tariff) { f.Spans[1].Daily = maxFare + 1 })
	wrong(api.ErrMoney, func(f *api.Tariff) { f.Spans[1].Weekly = -1 })
	for _, n := range []int{-1, maxFare + 1} {
		wrong(api.ErrMoney, func(f *api.Tariff) { f.Bus = n })
		wrong(api.ErrMoney, func(f *api.Tariff) { f.BusDaily = n })
		wrong(api.ErrMoney, func(f *api.Tariff) { f.BusWeekly = n })
		wrong(api.ErrMoney, func(f *api.Tariff) { f.Threshold = n })
	}
	wrong(api.ErrTariff, func(f *api.Tariff) { f.Spans[1].Daily = 499 })
	wrong(api.ErrTariff, func(f *api.Tariff) { f.Peak = make([]api.Band, 9) })
	wrong(api.ErrTariff, func(f *api.Tariff) { f.Peak = []api.Band{{From: 390, To: 1441}} })
	for _, off := range []float64{math.Copysign(0, -1), math.NaN(), math.Inf(1), math.Nextafter(1, 2), -1} {
		wrong(api.ErrRate, func(f *api.Tariff) { f.Off = off })
	}
	wrong(api.ErrTariff, func(f *api.Tariff) { f.Longest = 0 })
	wrong(api.ErrTariff, func(f *api.Tariff) { f.Delay = 1441 })
	return l
}

// notKinds are numbers that are no Kind.
func notKinds() []int {
	return []int{0, 5, 6, -1, -2, -4, 255, 257, 260, 1 << 32, 1<<32 + 1, 1<<32 + 4, math.MinInt, math.MinInt + 1, math.MinInt + 4, math.MaxInt}
}

// notPrices are numbers that are no price.
func notPrices() []int {
	return []int{-1, -2, -maxFare, maxFare + 1, maxFare + 2, maxTotal, 1 << 53, math.MinInt, math.MaxInt}
}

// notTimes are numbers that are no time.
func notTimes() []int {
	return []int{-1, -2, -1440, -maxTime, maxTime + 1, maxTime + 2, 2 * maxTime, 1<<32 + 480, math.MinInt, math.MinInt + 480, math.MaxInt}
}

// notStations are numbers of which the chapter's tariff has no station.
func notStations() []int {
	return []int{0, 3, -1, -2, 7, 65535, 65536, 65537, 1<<32 + 1, 1<<32 + 2, math.MinInt, math.MinInt + 1, math.MaxInt}
}

// daysWithoutTimes are days that no time lies on.
func daysWithoutTimes() []int {
	return []int{-2, -3, -7, -1440, lastDay + 1, lastDay + 2, maxTime, maxTotal - 1, maxTotal, maxTotal + 1, -maxTotal, -maxTotal - 1, math.MinInt, math.MinInt + 1, math.MaxInt - 1, math.MaxInt, math.MaxInt / 1440, math.MaxInt/1440 + 1, math.MinInt / 1440}
}

// somePrice is one of any size, often one of the few that caps are made of.
func somePrice(rnd *rand.Rand) int {
	if rnd.Intn(8) == 0 {
		return []int{0, 1, maxFare - 1, maxFare}[rnd.Intn(4)]
	}
	return rnd.Intn(maxFare+1) >> rnd.Intn(22)
}

// someWeights are so many numbers, of which whatever lies within costs no more: a span's prices are their sums.
func someWeights(rnd *rand.Rand, many int) []int {
	l := make([]int, many)
	for i := range l {
		l[i] = somePrice(rnd)
	}
	return l
}

func sumUpTo(l []int) int {
	n := 0
	for _, x := range l {
		n += x
	}
	return min(n, maxFare)
}

// someTariff is one that may be, of any size.
func someTariff(rnd *rand.Rand) api.Tariff {
	t := api.Tariff{Off: rnd.Float64(), Bus: somePrice(rnd), BusDaily: somePrice(rnd), BusWeekly: somePrice(rnd), Most: somePrice(rnd), Threshold: somePrice(rnd), Hopper: rnd.Intn(1441), Longest: 1 + rnd.Intn(1440), Change: rnd.Intn(1441), Passback: rnd.Intn(1441), Delay: rnd.Intn(1441)}
	zones := 1 + rnd.Intn(9)
	for id := 1 + rnd.Intn(3); len(t.Stations) < 12; id += 1 + rnd.Intn(3) {
		t.Stations = append(t.Stations, api.Station{Id: id, Zone: 1 + rnd.Intn(zones), Group: rnd.Intn(3)})
	}
	t.Stations[rnd.Intn(12)].Zone = zones
	single, daily, weekly := someWeights(rnd, zones), someWeights(rnd, zones), someWeights(rnd, zones)
	for from := range zones {
		for to := from; to < zones; to++ {
			t.Spans = append(t.Spans, api.Span{From: from + 1, To: to + 1, Single: sumUpTo(single[from : to+1]), Daily: sumUpTo(daily[from : to+1]), Weekly: sumUpTo(weekly[from : to+1])})
		}
	}
	if zones == 1 && rnd.Intn(4) == 0 {
		t.Stations = nil
	}
	return t
}

// someDayNumber is a day that times lie on from its first to its last minute.
func someDayNumber(rnd *rand.Rand) int {
	return []int{0, rnd.Intn(7), rnd.Intn(30), rnd.Intn(lastDay)}[rnd.Intn(4)]
}

// someFare is a price, often one beside the caps of a tariff.
func someFare(rnd *rand.Rand, f api.Tariff) int {
	span := f.Spans[rnd.Intn(len(f.Spans))]
	near := []int{f.Bus, f.BusDaily, f.BusWeekly, f.Most, span.Single, span.Daily, span.Weekly}[rnd.Intn(7)]
	switch rnd.Intn(4) {
	case 0:
		return somePrice(rnd)
	case 1:
		return min(max(0, near+rnd.Intn(3)-1), maxFare)
	}
	return near / (1 + rnd.Intn(6))
}

// someJourney is one that may be, on a travel day.
func someJourney(rnd *rand.Rand, f api.Tariff, day int) api.Priced {
	kind := []int{whole, whole, bus, bus, noExit, noEntry}[rnd.Intn(6)]
	p := priced(kind, rnd.Intn(40), rnd.Intn(40), 1440*day+270+rnd.Intn(1440), someFare(rnd, f))
	if kind == whole && len(f.Stations) == 0 {
		p.Journey.Kind = bus
	}
	if kind == whole && len(f.Stations) > 0 {
		p.Journey.From, p.Journey.To = f.Stations[rnd.Intn(12)].Id, f.Stations[rnd.Intn(12)].Id
	}
	p.Journey.Free = p.Journey.Kind == bus && rnd.Intn(2) == 0
	return p
}

// someJourneys are up to many of them.
func someJourneys(rnd *rand.Rand, f api.Tariff, day, many int) []api.Priced {
	l := make([]api.Priced, rnd.Intn(many+1))
	for i := range l {
		l[i] = someJourney(rnd, f, day)
	}
	if rnd.Intn(4) == 0 {
		for i := range l {
			l[i].Journey.Kind = []int{bus, noExit, noEntry}[rnd.Intn(3)]
		}
	}
	return l
}

// spoilt is a journey of which something is made any number.
func spoilt(rnd *rand.Rand, p api.Priced) api.Priced {
	one := func(l []int) int { return l[rnd.Intn(len(l))] }
	switch rnd.Intn(6) {
	case 0:
		p.Journey.Kind = one(notKinds())
	case 1:
		p.Fare = one(notPrices())
	case 2:
		p.Journey.Start = one(notTimes())
	case 3:
		p.Journey.Start += one([]int{-1440, -1, 1, 1440, 10080})
	case 4:
		p.Journey.From = one(notStations()) + 1000
	case 5:
		p.Journey.To = one(notStations()) + 1000
	}
	return p
}
