package tariff_test

import (
	"math"
	"math/rand"
	"slices"
	"testing"

	"farebox/api"
)

const maxFare = 1 << 20

// ofTheChapter is the tariff of the chapter's examples.
func ofTheChapter() api.Tariff {
	return api.Tariff{
		Stations: []api.Station{{Id: 1, Zone: 1}, {Id: 2, Zone: 2, Group: 7}},
		Spans: []api.Span{
			{From: 1, To: 1, Single: 200, Daily: 500, Weekly: 2000},
			{From: 1, To: 2, Single: 300, Daily: 700, Weekly: 2800},
			{From: 2, To: 2, Single: 150, Daily: 500, Weekly: 2000},
		},
		Off: 0.5, Longest: 120,
	}
}

// ofTheWhole is the tariff of the document's examples of the whole.
func ofTheWhole() api.Tariff {
	t := ofTheChapter()
	t.Stations = []api.Station{{Id: 1, Zone: 1}, {Id: 2, Zone: 2}, {Id: 3, Zone: 1}}
	t.Peak = []api.Band{{From: 390, To: 570}}
	t.Bus, t.BusDaily, t.BusWeekly, t.Hopper = 175, 400, 1500, 60
	t.Most, t.Delay, t.Threshold = 900, 15, 100
	return t
}

// zoned is a tariff of so many zones, whose prices rise with how many zones a span goes through.
func zoned(zones int) api.Tariff {
	t := ofTheWhole()
	t.Stations = nil
	for zone := 1; zone <= zones; zone++ {
		t.Stations = append(t.Stations, api.Station{Id: 10 * zone, Zone: zone})
	}
	t.Spans = nil
	for from := 1; from <= zones; from++ {
		for to := from; to <= zones; to++ {
			through := to - from + 1
			t.Spans = append(t.Spans, api.Span{From: from, To: to, Single: 10 * through, Daily: 30 * through, Weekly: 100 * through})
		}
	}
	return t
}

// minusZero is the zero that has a sign.
var minusZero = math.Copysign(0, -1)

// notRates are floats that are none.
func notRates() []float64 {
	l := []float64{minusZero, math.NaN(), math.Copysign(math.NaN(), -1), math.Inf(1), math.Inf(-1), math.Nextafter(1, 2), 1.5, 2, math.MaxFloat64, -math.MaxFloat64, -1, -0.5, -math.SmallestNonzeroFloat64}
	for _, b := range []uint64{0x7ff0000000000001, 0xfff0000000000001, 0x7fffffffffffffff, 0xffffffffffffffff, 0x7ff8000000000000, 0xfff8000000000000} {
		l = append(l, math.Float64frombits(b))
	}
	return l
}

// someRates are rates, the least and the greatest ones among them.
func someRates() []float64 {
	return []float64{0, math.SmallestNonzeroFloat64, 0.1, 1.0 / 3, math.Nextafter(0.5, 0), 0.5, math.Nextafter(0.5, 1), 0.75, math.Nextafter(1, 0), 1}
}

// notPrices are numbers that are none.
func notPrices() []int {
	return []int{-1, -2, -maxFare, maxFare + 1, maxFare + 2, 1 << 32, 1<<32 + 5, 1 << 53, 1<<53 + 1, -1 << 53, math.MinInt, math.MinInt + 1, math.MaxInt, math.MaxInt - 1}
}

// priceFields are the places of a span's prices.
func priceFields(s *api.Span) []*int { return []*int{&s.Single, &s.Daily, &s.Weekly} }

// otherPrices are the places of the prices that hang on no span.
func otherPrices(t *api.Tariff) []*int {
	return []*int{&t.Bus, &t.BusDaily, &t.BusWeekly, &t.Most, &t.Threshold}
}

// minuteFields are the places of minutes, Longest ahead.
func minuteFields(t *api.Tariff) []*int {
	return []*int{&t.Longest, &t.Hopper, &t.Change, &t.Passback, &t.Delay}
}

// isIn is the chapter's word: one span is within another one.
func isIn(s, outer api.Span) bool { return !(s.From < outer.From) && !(s.To > outer.To) }

// anyRight is a tariff that may be, of any size.
func anyRight(rnd *rand.Rand) api.Tariff {
	t := zoned(1 + rnd.Intn(9))
	zones := len(t.Stations)
	t.Stations = nil
	for id := 1 + rnd.Intn(50); id <= 65535 && len(t.Stations) < 20; id += 1 + rnd.Intn(5000) {
		t.Stations = append(t.Stations, api.Station{Id: id, Zone: 1 + rnd.Intn(zones), Group: rnd.Intn(65536) * rnd.Intn(2)})
	}
	t.Stations[rnd.Intn(len(t.Stations))].Zone = zones
	for i := range t.Spans {
		for _, p := range priceFields(&t.Spans[i]) {
			*p = rnd.Intn(maxFare+1) >> rnd.Intn(21)
		}
	}
	raise(t.Spans)
	t.Peak = nil
	for from := rnd.Intn(400); from < 1440 && len(t.Peak) < rnd.Intn(10); {
		to := from + 1 + rnd.Intn(1440-from)
		t.Peak = append(t.Peak, api.Band{From: from, To: to})
		from = to + rnd.Intn(2)*rnd.Intn(100)
	}
	t.Peak = t.Peak[:min(len(t.Peak), 8)]
	t.Off = someRates()[rnd.Intn(len(someRates()))]
	for _, p := range otherPrices(&t) {
		*p = rnd.Intn(maxFare + 1)
	}
	for _, p := range minuteFields(&t) {
		*p = 1 + rnd.Intn(1440)
	}
	return t
}

// raise lets each span cost what the dearest one within it does.
func raise(l []api.Span) {
	before := slices.Clone(l)
	for i := range l {
		for _, s := range before {
			if isIn(s, l[i]) {
				l[i].Single, l[i].Daily, l[i].Weekly = max(l[i].Single, s.Single), max(l[i].Daily, s.Daily), max(l[i].Weekly, s.Weekly)
			}
		}
	}
}

// roomy is the same tariff, whose lists have spare room that is filled; seen is all of it, the spare room too.
func roomy(t api.Tariff) (api.Tariff, func() api.Tariff) {
	t.Stations = withRoom(t.Stations, api.Station{Id: 77, Zone: 5, Group: 77})
	t.Spans = withRoom(t.Spans, api.Span{From: 7, To: 7, Single: 77, Daily: 77, Weekly: 77})
	t.Peak = withRoom(t.Peak, api.Band{From: 77, To: 78})
	return t, func() api.Tariff { return spread(t) }
}

func withRoom[T any](l []T, mark T) []T {
	all := append(slices.Clone(l), mark, mark, mark)
	return all[:len(l)]
}

// spread is a tariff whose lists go as far as their memory does.
func spread(t api.Tariff) api.Tariff {
	t.Stations, t.Spans, t.Peak = t.Stations[:cap(t.Stations)], t.Spans[:cap(t.Spans)], t.Peak[:cap(t.Peak)]
	return t
}

// apart is the same tariff in memory of its own, to hold it against later.
func apart(t api.Tariff) api.Tariff {
	t.Stations, t.Spans, t.Peak = slices.Clone(t.Stations), slices.Clone(t.Spans), slices.Clone(t.Peak)
	return t
}

// isSame compares tariffs; Off by its bits, a nil list and an empty one are the same (W5).
func isSame(a, b api.Tariff) bool {
	lists := slices.Equal(a.Stations, b.Stations) && slices.Equal(a.Spans, b.Spans) && slices.Equal(a.Peak, b.Peak)
	rates := math.Float64bits(a.Off) == math.Float64bits(b.Off)
	return lists && rates && slices.Equal(numbers(a), numbers(b))
}

func numbers(t api.Tariff) []int {
	return []int{t.Bus, t.BusDaily, t.BusWeekly, t.Hopper, t.Most, t.Longest, t.Change, t.Passback, t.Delay, t.Threshold}
}

func wantSame(t *testing.T, what string, got, want api.Tariff) {
	t.Helper()
	if !isSame(got, want) {
		t.Errorf("%s: %v, not %v", what, got, want)
	}
}
