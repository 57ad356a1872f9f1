package fare_test

import (
	"math"
	"math/rand"
	"testing"

	"farebox/api"
	"farebox/fare"
)

// otherStarts are times of each kind of day, in bands and out of them, and those beside a journey's Start.
func otherStarts(j api.Journey) []int {
	return []int{0, 270, 480, 600, 1200, 1439, at(1, 2, 0), at(4, 8, 0), at(5, 3, 0), at(5, 8, 0), at(6, 8, 0), max(0, j.Start-1), min(maxTime, j.Start+1)}
}

// fares are those of journeys that may be; it holds that each is a price.
func fares(t *testing.T, f api.Tariff, l []api.Journey) []int {
	t.Helper()
	priced, e := fare.All(f, l)
	if e != api.OK || len(priced) != len(l) {
		t.Fatalf("All of %v: %v, %d", l, priced, e)
	}
	out := make([]int, len(l))
	for i, p := range priced {
		if p.Fare < 0 || p.Fare > maxFare {
			t.Fatalf("%v: no price", p)
		}
		out[i] = p.Fare
	}
	return out
}

// follows is P18.4 of a journey that may be: a whole one is held against the way back, and against the same one from other times on.
func follows(t *testing.T, f api.Tariff, j api.Journey) {
	t.Helper()
	if j.Kind != whole {
		fares(t, f, []api.Journey{j})
		return
	}
	l := []api.Journey{j, between(whole, j.To, j.From, j.Start, j.End)}
	for _, time := range otherStarts(j) {
		l = append(l, between(whole, j.From, j.To, time, maxTime))
	}
	n := fares(t, f, l)
	if n[1] != n[0] {
		t.Fatalf("%v: %d there, %d back", j, n[0], n[1])
	}
	for i, other := range l {
		in, otherIn := slowPeak(f.Peak, j.Start), slowPeak(f.Peak, other.Start)
		if in == otherIn && n[i] != n[0] || in && !otherIn && n[i] > n[0] || !in && otherIn && n[i] < n[0] {
			t.Fatalf("%v: %d, in the peak: %t; from %d on: %d, %t", j, n[0], in, other.Start, n[i], otherIn)
		}
	}
}

// P18.4: many tariffs, many journeys.
func TestFollows(t *testing.T) {
	rnd := rand.New(rand.NewSource(185))
	for range 3000 {
		f := someTariff(rnd)
		for range 10 {
			if j := someJourney(rnd, f); slowError(f, j) == api.OK {
				follows(t, f, j)
			}
		}
	}
}

// P18.4: each rate, and the greatest and the least prices, between any two zones.
func TestFollowsAtTheLimits(t *testing.T) {
	for _, off := range someRates() {
		for _, single := range []int{-1, 0, 1, 2, 3, maxFare - 1, maxFare} {
			f := zoned()
			f.Off = off
			if single >= 0 {
				f.Bus, f.Most = single, single
				for i := range f.Spans {
					f.Spans[i].Single = single
				}
			}
			for from := 10; from <= 90; from += 10 {
				for to := from; to <= 90; to += 10 {
					follows(t, f, between(whole, from, to, 480, 510))
					follows(t, f, between(whole, from, to, 600, 630))
				}
			}
			for kind := noExit; kind <= bus; kind++ {
				follows(t, f, lone(kind, 10, 480))
			}
		}
	}
}

// FuzzPriced looks for journeys, and rates, of which a fare is otherwise than the chapter tells.
func FuzzPriced(f *testing.F) {
	f.Add(1, 10, 20, 480, 510, false, math.Float64bits(0.5), 390, 570)
	f.Add(4, 9, 9, 0, 0, true, math.Float64bits(1), 0, 1440)
	f.Add(2, 9, 9, 1<<31, 1<<31, false, math.Float64bits(1.0/3), 1439, 1440)
	f.Add(5, 0, 0, -1, 1<<31+1, true, math.Float64bits(math.NaN()), 0, 0)
	f.Fuzz(func(t *testing.T, kind, from, to, start, end int, isFree bool, rate uint64, low, high int) {
		p := zoned()
		p.Off = math.Float64frombits(rate)
		p.Peak = []api.Band{{From: low, To: high}}
		j := between(kind, from, to, start, end)
		j.Free = isFree
		if _, e := of(t, p, j); e == api.OK {
			follows(t, p, j)
		}
	})
}
