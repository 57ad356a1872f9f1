package refund_test

import (
	"math"
	"math/rand"
	"slices"
	"testing"

	"farebox/api"
)

// P20.3: the chapter's examples, and those of the document's whole that are refunds.
func TestChapterApplied(t *testing.T) {
	p := withFare(300, lone(noExit, 3, 500), lone(noExit, 3, 560), lone(noEntry, 2, 510), between(whole, 1, 3, 480, 500), between(whole, 1, 3, 480, 494), between(whole, 1, 3, 480, 499), between(whole, 3, 1, 559, 590), between(whole, 3, 1, 560, 590))
	got, e := applied(t, ofTheChapter(), one(3, 500, 560), p)
	if want := []int{0, 300, 300, 0, 300, 300, 0, 300}; e != api.OK || !slices.Equal(faresOf(got), want) {
		t.Error(got, e)
	}
	appliedIs(t, ofTheChapter(), one(1, 480, 481), withFare(900, lone(noExit, 1, 480)), withFare(0, lone(noExit, 1, 480)))
}

// heldUp are journeys that an outage of station 3 from 500 to 560 holds up by the chapter's tariff.
func heldUp() []api.Journey {
	return []api.Journey{lone(noExit, 3, 500), lone(noEntry, 3, 559), between(noExit, 3, 77, 510, -5), between(whole, 3, 1, 480, 500), between(whole, 1, 3, 559, 574), between(whole, 3, 3, 510, 525), free(between(whole, 3, math.MinInt, 510, 525)), free(lone(noExit, 3, 520))}
}

// asTheyAre are journeys that it does not hold up.
func asTheyAre() []api.Journey {
	return []api.Journey{lone(noExit, 3, 560), lone(noEntry, 1, 510), lone(bus, 3, 510), free(lone(bus, 3, 510)), between(whole, 3, 1, 480, 494), between(whole, 1, 2, 480, 590), {}, lone(5, 3, 510), between(whole, 3, 3, math.MinInt, math.MaxInt), between(whole, 3, 1, 540, 510), between(bus, 3, 3, 500, 590)}
}

// someFares are such as may be and such as may not.
func someFares() []int {
	return []int{0, 1, -1, 300, maxFare, maxFare + 1, -maxFare, 1 << 53, math.MinInt, math.MinInt + 1, math.MaxInt}
}

// P20.3: each journey alone, whatever it costs: all of it but the fare stays as it was.
func TestAppliedAlone(t *testing.T) {
	f, l := ofTheChapter(), one(3, 500, 560)
	for _, fare := range someFares() {
		for _, j := range heldUp() {
			appliedIs(t, f, l, withFare(fare, j), withFare(0, j))
			appliedIs(t, f, nil, withFare(fare, j), withFare(fare, j))
		}
		for _, j := range asTheyAre() {
			appliedIs(t, f, l, withFare(fare, j), withFare(fare, j))
		}
	}
}

// P20.3: all held up, none held up, and some in any order; there are as many as there were, as they stood.
func TestAppliedTogether(t *testing.T) {
	rnd := rand.New(rand.NewSource(205))
	f, l := ofTheChapter(), one(3, 500, 560)
	appliedIs(t, f, l, withFare(300, heldUp()...), withFare(0, heldUp()...))
	appliedIs(t, f, l, withFare(300, asTheyAre()...), withFare(300, asTheyAre()...))
	p := append(withFare(300, heldUp()...), withFare(300, asTheyAre()...)...)
	for range 100 {
		rnd.Shuffle(len(p), func(i, k int) { p[i], p[k] = p[k], p[i] })
		want := slices.Clone(p)
		for i, x := range want {
			if slices.Contains(heldUp(), x.Journey) {
				want[i].Fare = 0
			}
		}
		appliedIs(t, f, l, p, want)
	}
}

// P20.3: just one is held up, or all but one are, at the first, a middle and the last place.
func TestAppliedAtEachPlace(t *testing.T) {
	f, l := ofTheChapter(), one(3, 500, 560)
	for _, many := range []int{1, 2, 3, 10, 2000} {
		for _, i := range []int{0, many / 2, many - 1} {
			for _, x := range [][2]api.Journey{{lone(noExit, 3, 500), lone(noExit, 3, 560)}, {between(whole, 1, 3, 480, 500), between(whole, 1, 3, 480, 494)}, {lone(noEntry, 3, 510), lone(bus, 3, 510)}} {
				p, others := make([]api.Priced, many), make([]api.Priced, many)
				for k := range p {
					p[k] = api.Priced{Journey: x[1], Fare: 5 + k}
					others[k] = api.Priced{Journey: x[0], Fare: 5 + k}
				}
				p[i].Journey, others[i].Journey = x[0], x[1]
				want, wantOthers := slices.Clone(p), withFare(0, slices.Repeat(x[:1], many)...)
				want[i].Fare = 0
				wantOthers[i] = others[i]
				appliedIs(t, f, l, p, want)
				appliedIs(t, f, l, others, wantOthers)
			}
		}
	}
}

// P20.3: each journey is held up by the outages that are its own.
func TestAppliedByOutagesOfTheirOwn(t *testing.T) {
	f := ofTheChapter()
	l := []api.Outage{outage(1, 500, 510), outage(2, 600, 610), outage(3, 700, 710)}
	p := withFare(9, lone(noExit, 1, 505), lone(noExit, 1, 605), lone(noExit, 2, 605), lone(noEntry, 3, 605), lone(noEntry, 3, 705), between(whole, 1, 2, 480, 500), between(whole, 1, 2, 520, 599), between(whole, 1, 2, 520, 600), between(whole, 3, 1, 600, 699), between(whole, 3, 1, 600, 700))
	got, e := applied(t, f, l, p)
	if want := []int{0, 9, 0, 9, 0, 0, 9, 0, 9, 0}; e != api.OK || !slices.Equal(faresOf(got), want) {
		t.Error(got, e)
	}
}

// P20.3, W5: of no journeys there are none, whatever the outages; without outages all are as they were.
func TestAppliedOfNone(t *testing.T) {
	f := ofTheChapter()
	for _, l := range [][]api.Outage{nil, {}, one(3, 500, 560), manyOutages(100)} {
		appliedIs(t, f, l, nil, nil)
		appliedIs(t, f, l, []api.Priced{}, nil)
	}
	for _, l := range [][]api.Outage{nil, {}} {
		for _, fare := range someFares() {
			p := append(withFare(fare, heldUp()...), withFare(fare, asTheyAre()...)...)
			appliedIs(t, f, l, p, p)
		}
	}
}

// P20.3: as many journeys as there may be, one more, and many more; as many outages.
func TestHowManyJourneys(t *testing.T) {
	f, l := ofTheChapter(), one(3, 500, 560)
	for _, many := range []int{1, 2, 1999, 2000} {
		j := slices.Repeat([]api.Journey{lone(noExit, 3, 510)}, many)
		appliedIs(t, f, l, withFare(900, j...), withFare(0, j...))
		appliedIs(t, f, nil, withFare(900, j...), withFare(900, j...))
		appliedIs(t, f, append(manyOutages(99), l...), withFare(900, j...), withFare(0, j...))
		appliedIs(t, f, manyOutages(100), withFare(900, j...), withFare(900, j...))
	}
	for _, many := range []int{2001, 2002, 4000, 65536 + 5, 1 << 20} {
		for _, l := range [][]api.Outage{nil, l, manyOutages(100)} {
			appliedFails(t, f, l, make([]api.Priced, many), api.ErrLong)
		}
	}
	if api.MaxTaps != 2000 {
		t.Error("MaxTaps:", api.MaxTaps)
	}
}

// P20.3: a tariff that may not be, whatever the outages and the journeys.
func TestAppliedByWrongTariffs(t *testing.T) {
	for _, x := range wrongTariffs() {
		for _, l := range [][]api.Outage{nil, one(3, 500, 560), {{}}, manyOutages(101)} {
			for _, p := range [][]api.Priced{nil, withFare(5, heldUp()...), make([]api.Priced, 2000), make([]api.Priced, 2001)} {
				appliedFails(t, x.tariff, l, p, x.want)
			}
		}
	}
}

// P20.3: outages that may not be, in the first, a middle and the last place, or too many, whatever the journeys.
func TestAppliedByWrongOutages(t *testing.T) {
	f := ofTheChapter()
	for _, p := range [][]api.Priced{nil, withFare(5, heldUp()...), make([]api.Priced, 2001)} {
		for _, wrong := range notOutages() {
			for _, i := range []int{0, 3, 6} {
				l := manyOutages(7)
				l[i] = wrong
				appliedFails(t, f, l, p, api.ErrRecord)
			}
		}
		for _, many := range []int{101, 102, 1000} {
			appliedFails(t, f, manyOutages(many), p, api.ErrRecord)
		}
	}
}

// P20.3: any of them.
func TestAnyApplied(t *testing.T) {
	rnd := rand.New(rand.NewSource(206))
	changed, wrong := 0, 0
	for range 5000 {
		f, l, p := someTariff(rnd), someOutages(rnd, 6), someJourneys(rnd, 20)
		for i := range p {
			if rnd.Intn(3) == 0 {
				p[i].Journey = spoiltJourney(rnd, p[i].Journey)
				p[i].Fare = oneOf(rnd, someFares())
			}
		}
		if len(l) > 0 && rnd.Intn(5) == 0 {
			l[0] = spoiltOutage(rnd, l[0])
		}
		got, e := applied(t, f, l, p)
		if e != api.OK {
			wrong++
		} else if !slices.Equal(got, p) {
			changed++
		}
	}
	if changed < 1000 || wrong < 200 || wrong > 3000 {
		t.Error("so many:", changed, wrong)
	}
}
