package refund_test

import (
	"math/rand"
	"slices"
	"testing"

	"farebox/api"
)

// P20.1, W5: of no outages.
func TestNoOutages(t *testing.T) {
	right(t, nil, true)
	right(t, []api.Outage{}, true)
}

// P20.1: the least and the greatest numbers of an outage that may be, and one beside each.
func TestOutageAtTheLimits(t *testing.T) {
	for _, x := range []struct {
		outage api.Outage
		want   bool
	}{
		{outage(3, 500, 560), true}, {outage(3, 500, 501), true}, {outage(3, 500, 500), false}, {outage(3, 500, 499), false},
		{outage(1, 500, 560), true}, {outage(0, 500, 560), false}, {outage(-1, 500, 560), false},
		{outage(maxStation, 500, 560), true}, {outage(maxStation-1, 500, 560), true}, {outage(maxStation+1, 500, 560), false},
		{outage(3, 0, 560), true}, {outage(3, -1, 560), false}, {outage(3, 0, 1), true}, {outage(3, 0, 0), false}, {outage(3, -1, 0), false}, {outage(3, -2, -1), false},
		{outage(3, 500, maxTime), true}, {outage(3, 500, maxTime+1), false}, {outage(3, maxTime-1, maxTime), true}, {outage(3, maxTime, maxTime), false}, {outage(3, maxTime, maxTime+1), false}, {outage(3, maxTime+1, maxTime+2), false},
		{outage(3, 0, maxTime), true}, {outage(1, 0, maxTime), true}, {outage(maxStation, 0, maxTime), true},
	} {
		right(t, []api.Outage{x.outage}, x.want)
	}
}

// P20.1: each thing for which outages may not be, in the first, a middle and the last one, of few and of as many as may be.
func TestWrongOutages(t *testing.T) {
	for _, many := range []int{1, 2, 3, 7, 100} {
		for _, wrong := range notOutages() {
			for _, i := range []int{0, many / 2, many - 1} {
				l := manyOutages(many)
				right(t, l, true)
				l[i] = wrong
				right(t, l, false)
			}
		}
	}
	for i := range 100 {
		l := manyOutages(100)
		l[i] = outage(1, 5, 5)
		right(t, l, false)
	}
}

// P20.1: as many outages as there may be, one more, and many more, wrong ones among them too.
func TestHowManyOutages(t *testing.T) {
	for _, many := range []int{1, 2, 99, 100} {
		right(t, manyOutages(many), true)
	}
	for _, many := range []int{101, 102, 200, 256, 356, 65536 + 5, 1 << 20} {
		right(t, manyOutages(many), false)
		right(t, make([]api.Outage, many), false)
	}
	if api.MaxOutages != 100 {
		t.Error("MaxOutages:", api.MaxOutages)
	}
}

// P20.1: outages may stand in any order, touch, lie over one another, and be there twice.
func TestOutagesInAnyOrder(t *testing.T) {
	l := []api.Outage{outage(3, 500, 560), outage(3, 560, 600), outage(3, 510, 550), outage(1, 0, maxTime), outage(3, 500, 560), outage(2, 499, 500), outage(1, 0, maxTime)}
	rnd := rand.New(rand.NewSource(201))
	for range 100 {
		right(t, l, true)
		rnd.Shuffle(len(l), func(i, k int) { l[i], l[k] = l[k], l[i] })
	}
	slices.SortFunc(l, func(a, b api.Outage) int { return b.From - a.From })
	right(t, l, true)
}

// P20.1: any outages.
func TestAnyOutages(t *testing.T) {
	rnd := rand.New(rand.NewSource(202))
	wrong := 0
	for range 20000 {
		l := someOutages(rnd, 8)
		for len(l) > 0 && rnd.Intn(3) == 0 {
			i := rnd.Intn(len(l))
			l[i] = spoiltOutage(rnd, l[i])
		}
		mayBe := slowMayBe(l)
		right(t, l, mayBe)
		if !mayBe {
			wrong++
		}
	}
	if wrong < 2000 || wrong > 18000 {
		t.Error("so many that may not be:", wrong)
	}
}
