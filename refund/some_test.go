package refund_test

import (
	"math"
	"math/rand"
	"slices"
	"testing"

	"farebox/api"
	"farebox/refund"
)

const (
	whole, noExit, noEntry, bus = api.JourneyWhole, api.JourneyNoExit, api.JourneyNoEntry, api.JourneyBus

	maxTime    = 1 << 31
	maxFare    = 1 << 20
	maxStation = 65535
)

// delayed is the tariff of the chapter's examples, with a Delay.
func delayed(delay int) api.Tariff {
	return api.Tariff{
		Stations: []api.Station{{Id: 1, Zone: 1}, {Id: 2, Zone: 2}, {Id: 3, Zone: 1, Group: 7}},
		Spans: []api.Span{
			{From: 1, To: 1, Single: 200, Daily: 500, Weekly: 2000},
			{From: 1, To: 2, Single: 300, Daily: 700, Weekly: 2800},
			{From: 2, To: 2, Single: 150, Daily: 500, Weekly: 2000},
		},
		Peak: []api.Band{{From: 390, To: 570}},
		Off:  0.5, Bus: 175, BusDaily: 400, BusWeekly: 1500, Hopper: 60, Most: 900, Longest: 120, Change: 10, Passback: 5, Delay: delay, Threshold: 100,
	}
}

func ofTheChapter() api.Tariff { return delayed(15) }

// with is the chapter's tariff, changed.
func with(change func(f *api.Tariff)) api.Tariff {
	f := ofTheChapter()
	change(&f)
	return f
}

func outage(station, from, to int) api.Outage {
	return api.Outage{Station: station, From: from, To: to}
}

// one is a list of just one outage.
func one(station, from, to int) []api.Outage { return []api.Outage{outage(station, from, to)} }

// between is a journey of a kind from a place to another one, from a time to another one.
func between(kind, from, to, start, end int) api.Journey {
	return api.Journey{Kind: kind, From: from, To: to, Start: start, End: end}
}

// lone is a journey of which there is one tap alone.
func lone(kind, place, time int) api.Journey { return between(kind, place, place, time, time) }

func free(j api.Journey) api.Journey {
	j.Free = true
	return j
}

// right asks whether outages may be, and holds it against the chapter told slowly.
func right(t *testing.T, l []api.Outage, want bool) {
	t.Helper()
	e := refund.Right(l)
	if e != api.OK && e != api.ErrRecord || (e == api.OK) != want || slowMayBe(l) != want {
		t.Errorf("Right of %d outages, the first of %v: %d, not %t", len(l), l[:min(3, len(l))], e, want)
	}
}

// held asks whether a journey is held up, and holds it against the chapter told slowly; so with Apply of just that journey.
func held(t *testing.T, f api.Tariff, l []api.Outage, j api.Journey) bool {
	t.Helper()
	got := refund.Held(f, l, j)
	if want := slowHeld(f, l, j); got != want {
		t.Fatalf("Held %v by %v, Delay %d: %t, not %t", j, l[:min(3, len(l))], f.Delay, got, want)
	}
	applied(t, f, l, []api.Priced{{Journey: j, Fare: 7}})
	return got
}

func isHeld(t *testing.T, f api.Tariff, l []api.Outage, j api.Journey) {
	t.Helper()
	if !held(t, f, l, j) {
		t.Errorf("%v is not held up by %v, Delay %d", j, l[:min(3, len(l))], f.Delay)
	}
}

func isNotHeld(t *testing.T, f api.Tariff, l []api.Outage, j api.Journey) {
	t.Helper()
	if held(t, f, l, j) {
		t.Errorf("%v is held up by %v, Delay %d", j, l[:min(3, len(l))], f.Delay)
	}
}

func heldIs(t *testing.T, f api.Tariff, l []api.Outage, j api.Journey, want bool) {
	t.Helper()
	if want {
		isHeld(t, f, l, j)
	} else {
		isNotHeld(t, f, l, j)
	}
}

// applied asks for journeys with what they cost then, and holds it against the chapter told slowly.
func applied(t *testing.T, f api.Tariff, l []api.Outage, p []api.Priced) ([]api.Priced, api.Errno) {
	t.Helper()
	got, e := refund.Apply(f, l, p)
	if want, wantE := slowApply(f, l, p); e != wantE || !slices.Equal(got, want) {
		t.Fatalf("Apply %v to %d journeys, the first of %v: %v, %d, not %d", l[:min(3, len(l))], len(p), p[:min(3, len(p))], got[:min(3, len(got))], e, wantE)
	}
	return got, e
}

func appliedIs(t *testing.T, f api.Tariff, l []api.Outage, p, want []api.Priced) {
	t.Helper()
	if got, e := applied(t, f, l, p); e != api.OK || !slices.Equal(got, want) {
		t.Errorf("Apply: %v, %d, not %v", got, e, want)
	}
}

func appliedFails(t *testing.T, f api.Tariff, l []api.Outage, p []api.Priced, want api.Errno) {
	t.Helper()
	if got, e := applied(t, f, l, p); len(got) != 0 || e != want {
		t.Errorf("Apply to %d journeys: %d of them, %d, not %d", len(p), len(got), e, want)
	}
}

// faresOf are the fares of journeys.
func faresOf(p []api.Priced) []int {
	l := make([]int, len(p))
	for i, x := range p {
		l[i] = x.Fare
	}
	return l
}

// withFare are journeys that cost alike.
func withFare(fare int, l ...api.Journey) []api.Priced {
	p := make([]api.Priced, len(l))
	for i, j := range l {
		p[i] = api.Priced{Journey: j, Fare: fare}
	}
	return p
}

// manyOutages are so many that may be, of which none holds up what begins behind the minute 400.
func manyOutages(many int) []api.Outage {
	l := make([]api.Outage, many)
	for i := range l {
		l[i] = outage(1+i%3, i%200, i%200+1+i%199)
	}
	return l
}

type wrongTariff struct {
	tariff api.Tariff
	want   api.Errno
}

// wrongTariffs are such as may not be, by each of chapter 7's looks.
func wrongTariffs() []wrongTariff {
	var l []wrongTariff
	wrong := func(want api.Errno, change func(*api.Tariff)) {
		l = append(l, wrongTariff{with(change), want})
	}
	wrong(api.ErrTariff, func(f *api.Tariff) { *f = api.Tariff{} })
	wrong(api.ErrTariff, func(f *api.Tariff) { f.Stations = make([]api.Station, 201) })
	wrong(api.ErrTariff, func(f *api.Tariff) { f.Stations[1].Id = 1 })
	wrong(api.ErrTariff, func(f *api.Tariff) { f.Stations[2].Id = 65536 })
	wrong(api.ErrTariff, func(f *api.Tariff) { f.Stations[0].Zone = 0 })
	wrong(api.ErrTariff, func(f *api.Tariff) { f.Stations[0].Group = 65536 })
	wrong(api.ErrTariff, func(f *api.Tariff) { f.Spans = f.Spans[:2] })
	wrong(api.ErrTariff, func(f *api.Tariff) { f.Spans[0], f.Spans[2] = f.Spans[2], f.Spans[0] })
	wrong(api.ErrMoney, func(f *api.Tariff) { f.Spans[1].Single = maxFare + 1 })
	wrong(api.ErrMoney, func(f *api.Tariff) { f.Spans[1].Weekly = -1 })
	for _, n := range []int{-1, maxFare + 1} {
		wrong(api.ErrMoney, func(f *api.Tariff) { f.Bus = n })
		wrong(api.ErrMoney, func(f *api.Tariff) { f.Most = n })
		wrong(api.ErrMoney, func(f *api.Tariff) { f.Threshold = n })
	}
	wrong(api.ErrTariff, func(f *api.Tariff) { f.Spans[1].Single = 199 })
	wrong(api.ErrTariff, func(f *api.Tariff) { f.Peak = make([]api.Band, 9) })
	wrong(api.ErrTariff, func(f *api.Tariff) { f.Peak[0].To = 390 })
	for _, off := range []float64{math.Copysign(0, -1), math.NaN(), math.Inf(1), math.Nextafter(1, 2), -1} {
		wrong(api.ErrRate, func(f *api.Tariff) { f.Off = off })
	}
	wrong(api.ErrTariff, func(f *api.Tariff) { f.Longest = 0 })
	wrong(api.ErrTariff, func(f *api.Tariff) { f.Delay = -1 })
	wrong(api.ErrTariff, func(f *api.Tariff) { f.Delay = 1441 })
	return l
}

// notStations are numbers that no outage may have.
func notStations() []int {
	return []int{0, -1, -2, -maxStation, maxStation + 1, maxStation + 2, 1<<32 + 1, 1 << 53, math.MinInt, math.MinInt + 1, math.MaxInt}
}

// notTimes are numbers that are no time.
func notTimes() []int {
	return []int{-1, -2, -1440, -maxTime, maxTime + 1, maxTime + 2, 2 * maxTime, 1<<32 + 480, math.MinInt, math.MinInt + 1, math.MinInt + 480, math.MaxInt - 1, math.MaxInt}
}

// notKinds are numbers that are no Kind.
func notKinds() []int {
	return []int{0, 5, 6, -1, -2, -3, -4, 255, 257, 258, 1 << 32, 1<<32 + 1, 1<<32 + 2, 1<<32 + 3, math.MinInt, math.MinInt + 1, math.MinInt + 2, math.MaxInt}
}

// notOutages are such as may not be.
func notOutages() []api.Outage {
	l := []api.Outage{{}, outage(1, 0, 0), outage(1, 5, 5), outage(1, 6, 5), outage(1, maxTime, maxTime), outage(1, maxTime, 0), outage(1, maxTime, maxTime-1), outage(1, math.MinInt, math.MaxInt), outage(1, math.MaxInt, math.MinInt)}
	for _, n := range notStations() {
		l = append(l, outage(n, 500, 560), outage(n, 0, maxTime))
	}
	for _, n := range notTimes() {
		l = append(l, outage(1, n, 560), outage(1, 500, n), outage(1, n, n), outage(1, n, maxTime), outage(1, 0, n))
	}
	return l
}

// oneOf is any of them.
func oneOf[T any](rnd *rand.Rand, l []T) T { return l[rnd.Intn(len(l))] }

// someTariff is one that may be, with any Delay.
func someTariff(rnd *rand.Rand) api.Tariff {
	f := delayed(oneOf(rnd, []int{0, 1, rnd.Intn(30), rnd.Intn(30), rnd.Intn(30), rnd.Intn(1441), 1440}))
	f.Off = rnd.Float64()
	f.Longest = 1 + rnd.Intn(1440)
	f.Most = rnd.Intn(maxFare + 1)
	f.Stations = f.Stations[:2+rnd.Intn(2)]
	return f
}

// someTime is one among few, or of any.
func someTime(rnd *rand.Rand) int {
	switch rnd.Intn(12) {
	case 0:
		return oneOf(rnd, []int{0, 1, maxTime - 1, maxTime})
	case 1:
		return rnd.Intn(maxTime + 1)
	}
	return 480 + rnd.Intn(120)
}

// somePlace is one of few.
func somePlace(rnd *rand.Rand) int {
	if rnd.Intn(12) == 0 {
		return oneOf(rnd, []int{4, 77, maxStation})
	}
	return 1 + rnd.Intn(3)
}

// someOutage is one that may be.
func someOutage(rnd *rand.Rand) api.Outage {
	from := min(someTime(rnd), maxTime-1)
	return outage(somePlace(rnd), from, min(maxTime, from+1+rnd.Intn(40)))
}

// someOutages are up to many of them.
func someOutages(rnd *rand.Rand, many int) []api.Outage {
	l := make([]api.Outage, rnd.Intn(many+1))
	for i := range l {
		l[i] = someOutage(rnd)
	}
	return l
}

// somePriced is a journey of any kind, with a price.
func somePriced(rnd *rand.Rand) api.Priced {
	j := between(oneOf(rnd, []int{whole, whole, whole, noExit, noEntry, bus}), somePlace(rnd), somePlace(rnd), someTime(rnd), 0)
	j.End = min(maxTime, j.Start+rnd.Intn(40))
	j.Free = j.Kind == bus && rnd.Intn(2) == 0
	return api.Priced{Journey: j, Fare: oneOf(rnd, []int{0, 1, rnd.Intn(1000), rnd.Intn(maxFare + 1), maxFare})}
}

// someJourneys are up to many of them.
func someJourneys(rnd *rand.Rand, many int) []api.Priced {
	p := make([]api.Priced, rnd.Intn(many+1))
	for i := range p {
		p[i] = somePriced(rnd)
	}
	return p
}

// anyNumber is one that is often wrong wherever it stands.
func anyNumber(rnd *rand.Rand) int {
	return oneOf(rnd, []int{0, 1, 2, 3, -1, 480, 500, oneOf(rnd, notTimes()), oneOf(rnd, notStations()), oneOf(rnd, notKinds()), int(rnd.Uint64()), int(rnd.Uint64() >> rnd.Intn(64))})
}

// spoiltJourney is a journey of which something is made any number.
func spoiltJourney(rnd *rand.Rand, j api.Journey) api.Journey {
	*oneOf(rnd, []*int{&j.Kind, &j.From, &j.To, &j.Start, &j.End}) = anyNumber(rnd)
	j.Free = j.Free != (rnd.Intn(4) == 0)
	return j
}

// spoiltOutage is an outage of which something is made any number.
func spoiltOutage(rnd *rand.Rand, o api.Outage) api.Outage {
	*oneOf(rnd, []*int{&o.Station, &o.From, &o.To}) = anyNumber(rnd)
	return o
}
