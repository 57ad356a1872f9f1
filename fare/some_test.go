package fare_test

import (
	"math"
	"math/rand"
	"slices"
	"testing"

	"farebox/api"
	"farebox/fare"
)

const (
	whole, noExit, noEntry, bus = api.JourneyWhole, api.JourneyNoExit, api.JourneyNoEntry, api.JourneyBus

	maxTime = 1 << 31
	maxFare = 1 << 20
)

// ofTheChapter is the tariff of the chapter's examples.
func ofTheChapter() api.Tariff {
	return api.Tariff{
		Stations: []api.Station{{Id: 1, Zone: 1}, {Id: 2, Zone: 2, Group: 7}},
		Spans: []api.Span{
			{From: 1, To: 1, Single: 200, Daily: 500, Weekly: 2000},
			{From: 1, To: 2, Single: 300, Daily: 700, Weekly: 2800},
			{From: 2, To: 2, Single: 150, Daily: 500, Weekly: 2000},
		},
		Peak: []api.Band{{From: 390, To: 570}},
		Off:  0.5, Bus: 175, Most: 900, Longest: 120,
	}
}

// zoned is a tariff of nine zones in which no two numbers are alike, with two stations in each zone: 10 and 11 in zone 1, 20 and 21 in zone 2, and so on.
func zoned() api.Tariff {
	t := api.Tariff{Peak: []api.Band{{From: 390, To: 570}, {From: 960, To: 1140}}, Off: 1.0 / 3, Bus: 171, BusDaily: 403, BusWeekly: 1507, Hopper: 61, Most: 907, Longest: 121, Change: 11, Passback: 7, Delay: 17, Threshold: 101}
	for zone := 1; zone <= 9; zone++ {
		t.Stations = append(t.Stations, api.Station{Id: 10 * zone, Zone: zone, Group: zone + 70}, api.Station{Id: 10*zone + 1, Zone: zone})
		for to := zone; to <= 9; to++ {
			single := 1000*(to-zone+1) + 10*zone + to
			t.Spans = append(t.Spans, api.Span{From: zone, To: to, Single: single, Daily: 3*single + 1, Weekly: 13*single + 2})
		}
	}
	return t
}

// with is the chapter's tariff, changed.
func with(change func(f *api.Tariff)) api.Tariff {
	f := ofTheChapter()
	change(&f)
	return f
}

// between is a journey of a kind from a place to another one, from a time to another one.
func between(kind, from, to, start, end int) api.Journey {
	return api.Journey{Kind: kind, From: from, To: to, Start: start, End: end}
}

// lone is a journey of which there is one tap alone.
func lone(kind, place, time int) api.Journey { return between(kind, place, place, time, time) }

func free(j api.Journey) api.Journey {
	j.Free = true
	return j
}

// at is a minute of a day behind the first Monday, by midnights.
func at(day, hour, minute int) int { return 1440*day + 60*hour + minute }

// of asks what a journey costs, and holds it against the chapter told slowly; so with a list of just that journey.
func of(t *testing.T, f api.Tariff, j api.Journey) (int, api.Errno) {
	t.Helper()
	got, e := fare.Of(f, j)
	if want, wantE := slowOf(f, j); got != want || e != wantE {
		t.Fatalf("Of %v: %d, %d, not %d, %d; %v", j, got, e, want, wantE, f)
	}
	l, allE := fare.All(f, []api.Journey{j})
	if allE != e || e == api.OK && !slices.Equal(l, []api.Priced{{Journey: j, Fare: got}}) || e != api.OK && len(l) > 0 {
		t.Fatalf("All of %v: %v, %d, not %d, %d", j, l, allE, got, e)
	}
	return got, e
}

func ofIs(t *testing.T, f api.Tariff, j api.Journey, want int) {
	t.Helper()
	if got, e := of(t, f, j); got != want || e != api.OK {
		t.Errorf("Of %v: %d, %d, not %d", j, got, e, want)
	}
}

func ofFails(t *testing.T, f api.Tariff, j api.Journey, want api.Errno) {
	t.Helper()
	if got, e := of(t, f, j); got != 0 || e != want {
		t.Errorf("Of %v: %d, %d, not %d", j, got, e, want)
	}
}

// all asks what journeys cost, and holds it against the chapter told slowly.
func all(t *testing.T, f api.Tariff, l []api.Journey) ([]api.Priced, api.Errno) {
	t.Helper()
	got, e := fare.All(f, l)
	if want, wantE := slowAll(f, l); e != wantE || !slices.Equal(got, want) {
		t.Fatalf("All of %d journeys: %v, %d, not %v, %d", len(l), got, e, want, wantE)
	}
	return got, e
}

func allFails(t *testing.T, f api.Tariff, l []api.Journey, want api.Errno) {
	t.Helper()
	if got, e := all(t, f, l); len(got) != 0 || e != want {
		t.Errorf("All of %d journeys: %d of them, %d, not %d", len(l), len(got), e, want)
	}
}

type wrongTariff struct {
	tariff api.Tariff
	want   api.Errno
}

// wrongTariffs are such as may not be, by each of chapter 7's looks.
func wrongTariffs() []wrongTariff {
	var l []wrongTariff
	wrong := func(want api.Errno, change func(*api.Tariff)) {
		l = append(l, wrongTariff{with(change), want})
	}
	wrong(api.ErrTariff, func(f *api.Tariff) { *f = api.Tariff{} })
	wrong(api.ErrTariff, func(f *api.Tariff) { f.Stations = make([]api.Station, 201) })
	wrong(api.ErrTariff, func(f *api.Tariff) { f.Stations[1].Id = 1 })
	wrong(api.ErrTariff, func(f *api.Tariff) { f.Stations[1].Id = 65536 })
	wrong(api.ErrTariff, func(f *api.Tariff) { f.Stations[0].Zone = 0 })
	wrong(api.ErrTariff, func(f *api.Tariff) { f.Stations[0].Group = 65536 })
	wrong(api.ErrTariff, func(f *api.Tariff) { f.Spans = f.Spans[:2] })
	wrong(api.ErrTariff, func(f *api.Tariff) { f.Spans[0], f.Spans[2] = f.Spans[2], f.Spans[0] })
	wrong(api.ErrMoney, func(f *api.Tariff) { f.Spans[1].Single = maxFare + 1 })
	wrong(api.ErrMoney, func(f *api.Tariff) { f.Spans[1].Weekly = -1 })
	for _, n := range []int{-1, maxFare + 1} {
		wrong(api.ErrMoney, func(f *api.Tariff) { f.Bus = n })
		wrong(api.ErrMoney, func(f *api.Tariff) { f.Most = n })
		wrong(api.ErrMoney, func(f *api.Tariff) { f.Threshold = n })
	}
	wrong(api.ErrTariff, func(f *api.Tariff) { f.Spans[1].Single = 199 })
	wrong(api.ErrTariff, func(f *api.Tariff) { f.Peak = make([]api.Band, 9) })
	wrong(api.ErrTariff, func(f *api.Tariff) { f.Peak[0].To = 390 })
	wrong(api.ErrTariff, func(f *api.Tariff) { f.Peak[0].To = 1441 })
	for _, off := range notRates() {
		wrong(api.ErrRate, func(f *api.Tariff) { f.Off = off })
	}
	wrong(api.ErrTariff, func(f *api.Tariff) { f.Longest = 0 })
	wrong(api.ErrTariff, func(f *api.Tariff) { f.Delay = 1441 })
	return l
}

// notRates are floats that are none.
func notRates() []float64 {
	return []float64{math.Copysign(0, -1), math.NaN(), math.Inf(1), math.Inf(-1), math.Nextafter(1, 2), 2, -math.SmallestNonzeroFloat64, -1}
}

// someRates are rates: the least and the greatest ones, such as a half hangs on, such as have no short decimal form.
func someRates() []float64 {
	return []float64{0, math.SmallestNonzeroFloat64, 1e-7, 0.1, 1.0 / 3, math.Nextafter(0.5, 0), 0.5, math.Nextafter(0.5, 1), 2.0 / 3, 0.7, 0.75, 0.99, math.Pi / 4, math.Nextafter(1, 0), 1}
}

// notKinds are numbers that are no Kind.
func notKinds() []int {
	return []int{0, 5, 6, -1, -2, -4, 255, 257, 260, 1 << 32, 1<<32 + 1, 1<<32 + 4, math.MinInt, math.MinInt + 1, math.MinInt + 4, math.MaxInt}
}

// notTimes are numbers that are no time.
func notTimes() []int {
	return []int{-1, -2, -1440, -maxTime, maxTime + 1, maxTime + 2, 2 * maxTime, 1<<32 + 480, math.MinInt, math.MinInt + 480, math.MaxInt}
}

// someWeights are so many numbers, of which whatever lies within costs no more: a span's prices are their sums.
func someWeights(rnd *rand.Rand, many int) []int {
	l := make([]int, many)
	for i := range l {
		l[i] = rnd.Intn(maxFare+1) >> rnd.Intn(22)
	}
	return l
}

func sumOf(l []int) int {
	n := 0
	for _, x := range l {
		n += x
	}
	return min(n, maxFare)
}

// someTariff is one that may be, of any size.
func someTariff(rnd *rand.Rand) api.Tariff {
	price := func() int { return rnd.Intn(maxFare+1) >> rnd.Intn(22) }
	t := api.Tariff{Off: someRates()[rnd.Intn(len(someRates()))], Bus: price(), BusDaily: price(), BusWeekly: price(), Most: price(), Threshold: price(), Hopper: rnd.Intn(1441), Longest: 1 + rnd.Intn(1440), Change: rnd.Intn(1441), Passback: rnd.Intn(1441), Delay: rnd.Intn(1441)}
	if rnd.Intn(2) == 0 {
		t.Off = rnd.Float64()
	}
	zones := 1 + rnd.Intn(9)
	for id := 1 + rnd.Intn(3); len(t.Stations) < 12; id += 1 + rnd.Intn(3) {
		t.Stations = append(t.Stations, api.Station{Id: id, Zone: 1 + rnd.Intn(zones), Group: rnd.Intn(3)})
	}
	t.Stations[rnd.Intn(12)].Zone = zones
	single, daily, weekly := someWeights(rnd, zones), someWeights(rnd, zones), someWeights(rnd, zones)
	for from := range zones {
		for to := from; to < zones; to++ {
			t.Spans = append(t.Spans, api.Span{From: from + 1, To: to + 1, Single: sumOf(single[from : to+1]), Daily: sumOf(daily[from : to+1]), Weekly: sumOf(weekly[from : to+1])})
		}
	}
	many := rnd.Intn(9)
	for from := rnd.Intn(300); from < 1440 && len(t.Peak) < many; {
		to := from + 1 + rnd.Intn(min(300, 1440-from))
		t.Peak = append(t.Peak, api.Band{From: from, To: to})
		from = to + rnd.Intn(2)*rnd.Intn(200)
	}
	if zones == 1 && rnd.Intn(4) == 0 {
		t.Stations = nil
	}
	return t
}

// someTime is one of any day, often at an edge of a band, of a day, or of all times.
func someTime(rnd *rand.Rand, f api.Tariff) int {
	day := []int{rnd.Intn(7), rnd.Intn(7), rnd.Intn(30), rnd.Intn(1491308)}[rnd.Intn(4)]
	minute := []int{0, 1, 269, 270, 271, 1439, rnd.Intn(1440), rnd.Intn(1440)}[rnd.Intn(8)]
	if len(f.Peak) > 0 && rnd.Intn(2) == 0 {
		b := f.Peak[rnd.Intn(len(f.Peak))]
		minute = []int{b.From - 1, b.From, b.To - 1, b.To}[rnd.Intn(4)]
	}
	return min(max(0, 1440*day+minute), maxTime)
}

// somePlace is mostly a station's number.
func somePlace(rnd *rand.Rand, f api.Tariff) int {
	if len(f.Stations) == 0 || rnd.Intn(20) == 0 {
		return []int{0, -1, 41, 1000, 65535, 65536, math.MinInt, math.MaxInt, rnd.Intn(40)}[rnd.Intn(9)]
	}
	return f.Stations[rnd.Intn(len(f.Stations))].Id
}

// someJourney is one that may be, if its stations are there.
func someJourney(rnd *rand.Rand, f api.Tariff) api.Journey {
	j := api.Journey{Kind: 1 + rnd.Intn(4), From: somePlace(rnd, f), To: somePlace(rnd, f), Start: someTime(rnd, f)}
	if rnd.Intn(2) == 0 {
		j.Kind = whole
	}
	j.End = min(maxTime, j.Start+rnd.Intn(3)*rnd.Intn(1441))
	j.Free = j.Kind == bus && rnd.Intn(2) == 0
	return j
}

// spoilt is a journey of which something is made any number.
func spoilt(rnd *rand.Rand, j api.Journey) api.Journey {
	switch rnd.Intn(5) {
	case 0:
		j.Kind = notKinds()[rnd.Intn(len(notKinds()))]
	case 1:
		j.Start = notTimes()[rnd.Intn(len(notTimes()))]
	case 2:
		j.End = notTimes()[rnd.Intn(len(notTimes()))]
	case 3:
		j.Start, j.End = j.End+1-rnd.Intn(2), j.Start
	case 4:
		j.Free = true
	}
	return j
}
