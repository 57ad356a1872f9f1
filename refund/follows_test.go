package refund_test

import (
	"math"
	"math/rand"
	"slices"
	"testing"

	"farebox/api"
	"farebox/refund"
)

// fares are those of journeys behind outages that may be, by a tariff that may be.
func fares(t *testing.T, f api.Tariff, l []api.Outage, p []api.Priced) []int {
	t.Helper()
	got, e := refund.Apply(f, l, p)
	if e != api.OK || len(got) != len(p) {
		t.Fatalf("Apply %v to %v: %v, %d", l, p, got, e)
	}
	return faresOf(got)
}

// areNoMore tells whether fares are, one by one, no more than others.
func areNoMore(less, more []int) bool {
	for i := range less {
		if less[i] > more[i] {
			return false
		}
	}
	return len(less) == len(more)
}

// follows is P20.5 of journeys whose fares may be.
func follows(t *testing.T, f api.Tariff, l []api.Outage, p []api.Priced) {
	t.Helper()
	once, e := refund.Apply(f, l, p)
	if e != api.OK || !areNoMore(faresOf(once), faresOf(p)) {
		t.Fatalf("%v of %v, %d: more than it was", once, p, e)
	}
	if twice, e := refund.Apply(f, l, once); e != api.OK || !slices.Equal(twice, once) {
		t.Fatalf("%v of %v, %d: twice is not as once", twice, once, e)
	}
	if none, e := refund.Apply(f, nil, p); e != api.OK || !slices.Equal(none, p) {
		t.Fatalf("%v of %v, %d: not as it was without outages", none, p, e)
	}
	for i := range l {
		if less := slices.Delete(slices.Clone(l), i, i+1); !areNoMore(faresOf(once), fares(t, f, less, p)) {
			t.Fatalf("%v of %v: less is given back than without %v", once, p, l[i])
		}
	}
}

// P20.5: many tariffs, outages and journeys.
func TestFollows(t *testing.T) {
	rnd := rand.New(rand.NewSource(209))
	back := 0
	for range 5000 {
		f, l, p := someTariff(rnd), someOutages(rnd, 6), someJourneys(rnd, 15)
		follows(t, f, l, p)
		if !slices.Equal(fares(t, f, l, p), faresOf(p)) {
			back++
		}
	}
	if back < 1000 {
		t.Error("only so often something is given back:", back)
	}
}

// P20.5: as many outages and journeys as may be.
func TestFollowsAtTheLimits(t *testing.T) {
	rnd := rand.New(rand.NewSource(210))
	for range 3 {
		f := someTariff(rnd)
		l, p := make([]api.Outage, 100), make([]api.Priced, 2000)
		for i := range l {
			l[i] = someOutage(rnd)
		}
		for i := range p {
			p[i] = somePriced(rnd)
		}
		follows(t, f, l, p)
	}
}

// P20.5: one more outage, at each place; then what all of them give back together is what each does alone.
func TestMoreOutages(t *testing.T) {
	rnd := rand.New(rand.NewSource(211))
	for range 500 {
		f, l, p := someTariff(rnd), someOutages(rnd, 6), someJourneys(rnd, 15)
		before := fares(t, f, l, p)
		for i := range len(l) + 1 {
			o := someOutage(rnd)
			want := slices.Clone(before)
			for k, fare := range fares(t, f, []api.Outage{o}, p) {
				want[k] = min(want[k], fare)
			}
			if got := fares(t, f, slices.Insert(slices.Clone(l), i, o), p); !areNoMore(got, before) || !slices.Equal(got, want) {
				t.Fatalf("%v behind %v and %v, %v without it", got, l, o, before)
			}
		}
	}
}

// FuzzApplied looks for journeys, outages and Delays of which something else is told than the chapter tells.
func FuzzApplied(f *testing.F) {
	f.Add(1, 1, 3, 480, 500, 300, 3, 500, 560, 1, 0, 1, 15)
	f.Add(2, 3, 3, 500, 500, 900, 2, 0, 5, 3, 500, 560, 0)
	f.Add(4, 3, 3, 510, 510, 175, 3, 0, 1<<31, 3, 500, 500, 1440)
	f.Add(1, 3, 1, math.MinInt, math.MaxInt, -1, 3, math.MinInt, math.MaxInt, 65536, -1, 1<<31+1, -1)
	f.Fuzz(func(t *testing.T, kind, from, to, start, end, fare, station1, from1, to1, station2, from2, to2, delay int) {
		one, two := outage(station1, from1, to1), outage(station2, from2, to2)
		p := []api.Priced{{Journey: between(kind, from, to, start, end), Fare: fare}}
		for _, l := range [][]api.Outage{nil, {one}, {two}, {one, two}, {two, one}} {
			right(t, l, slowMayBe(l))
			held(t, delayed(delay), l, p[0].Journey)
			if _, e := applied(t, delayed(delay), l, p); e == api.OK && fare >= 0 {
				follows(t, delayed(delay), l, p)
			}
		}
	})
}
