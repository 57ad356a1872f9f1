package fare_test

import (
	"math/rand"
	"slices"
	"testing"

	"farebox/api"
	"farebox/fare"
)

// someJourneys are so many that may be, by the chapter's tariff.
func someJourneys(many int) []api.Journey {
	l := make([]api.Journey, many)
	for i := range l {
		switch i % 5 {
		case 0:
			l[i] = between(whole, 1+i%2, 1+i/2%2, 300+i, 310+2*i)
		case 1:
			l[i] = lone(noExit, i, i)
		case 2:
			l[i] = lone(bus, i, maxTime-i)
		case 3:
			l[i] = free(lone(bus, i, 10*i))
		case 4:
			l[i] = lone(noEntry, 9000+i, 3*i)
		}
	}
	return l
}

// wrongJourney is one that may not be by the chapter's tariff.
type wrongJourney struct {
	journey api.Journey
	want    api.Errno
}

func wrongJourneys() []wrongJourney {
	return []wrongJourney{
		{api.Journey{}, api.ErrArg}, {lone(5, 1, 480), api.ErrArg}, {lone(-1, 1, 480), api.ErrArg},
		{lone(bus, 9, -1), api.ErrTime}, {between(whole, 1, 2, 480, 479), api.ErrTime}, {between(noExit, 1, 1, 480, maxTime+1), api.ErrTime}, {lone(noEntry, 1, maxTime+1), api.ErrTime},
		{free(lone(whole, 1, 480)), api.ErrArg}, {free(lone(noExit, 1, 480)), api.ErrArg}, {free(lone(noEntry, 1, 480)), api.ErrArg},
		{between(whole, 3, 1, 480, 510), api.ErrArg}, {between(whole, 1, 3, 480, 510), api.ErrArg}, {lone(whole, 3, 480), api.ErrArg},
	}
}

// P18.2: each journey with its fare, in their order, as it was handed in.
func TestAll(t *testing.T) {
	given := []api.Journey{
		between(whole, 1, 2, 480, 510), lone(bus, 9, 500), between(whole, 2, 1, 600, 630), lone(noExit, 1, 5), free(lone(bus, 8, 510)), between(noEntry, 77, 78, 5, 9), between(whole, 1, 2, 480, 510), between(bus, 3, 4, 0, maxTime), between(whole, 1, 1, 480, 480), between(whole, 2, 2, 390, 391), lone(bus, 9, 0),
	}
	fares := []int{300, 175, 150, 900, 0, 900, 300, 175, 200, 150, 175}
	got, e := all(t, ofTheChapter(), given)
	if e != api.OK || len(got) != len(given) {
		t.Fatal(got, e)
	}
	for i, p := range got {
		if p.Journey != given[i] || p.Fare != fares[i] {
			t.Errorf("%d: %v, not %v for %d", i, p, given[i], fares[i])
		}
	}
}

// P18.2, W5: of no journeys there are none.
func TestAllOfNone(t *testing.T) {
	for _, l := range [][]api.Journey{nil, {}} {
		if got, e := all(t, ofTheChapter(), l); len(got) != 0 || e != api.OK {
			t.Error(got, e)
		}
		for _, x := range wrongTariffs() {
			allFails(t, x.tariff, l, x.want)
		}
	}
}

// P18.2: as many journeys as there may be, one more, and many more.
func TestHowMany(t *testing.T) {
	f := ofTheChapter()
	for _, many := range []int{1, 2, 1999, 2000} {
		if got, e := all(t, f, someJourneys(many)); len(got) != many || e != api.OK {
			t.Errorf("%d: %d, %d", many, len(got), e)
		}
	}
	for _, many := range []int{2001, 2002, 4000, 65536 + 5, 1 << 20} {
		allFails(t, f, someJourneys(many), api.ErrLong)
	}
	if api.MaxTaps != 2000 {
		t.Error("MaxTaps:", api.MaxTaps)
	}
}

// P18.2, W4: which of the errors comes first: the tariff's, then that there are too many, then those of the journeys.
func TestFirstOfAll(t *testing.T) {
	f := ofTheChapter()
	for _, x := range wrongJourneys() {
		for _, at := range []int{0, 1, 1000, 1999, 2000} {
			l := someJourneys(2001)
			l[at] = x.journey
			allFails(t, f, l, api.ErrLong)
			for _, wrong := range wrongTariffs() {
				allFails(t, wrong.tariff, l, wrong.want)
				allFails(t, wrong.tariff, l[:2000], wrong.want)
			}
			if at < 2000 {
				allFails(t, f, l[:2000], x.want)
			}
		}
	}
	allFails(t, f, make([]api.Journey, 2000), api.ErrArg)
	allFails(t, f, make([]api.Journey, 2001), api.ErrLong)
}

// P18.2: the first error of several, at each place; every other answer is zero.
func TestFirstJourney(t *testing.T) {
	f := ofTheChapter()
	for _, many := range []int{1, 2, 3, 10} {
		for i := range many {
			for _, x := range wrongJourneys() {
				l := someJourneys(many)
				l[i] = x.journey
				allFails(t, f, l, x.want)
				for k := i + 1; k < many; k++ {
					for _, y := range wrongJourneys() {
						m := slices.Clone(l)
						m[k] = y.journey
						allFails(t, f, m, x.want)
					}
				}
			}
		}
	}
}

// P18.2: any journeys, by any tariff that may be: each as Of tells it alone.
func TestAnyJourneys(t *testing.T) {
	rnd := rand.New(rand.NewSource(182))
	wrong := 0
	for range 2000 {
		f := someTariff(rnd)
		l := make([]api.Journey, rnd.Intn(30))
		for i := range l {
			l[i] = someJourney(rnd, f)
			if rnd.Intn(40) == 0 {
				l[i] = spoilt(rnd, l[i])
			}
		}
		got, e := all(t, f, l)
		if e != api.OK {
			wrong++
			first := slices.IndexFunc(l, func(j api.Journey) bool { return slowError(f, j) != api.OK })
			if _, ofE := fare.Of(f, l[first]); ofE != e {
				t.Fatalf("%v: %d, not %d", l[first], e, ofE)
			}
		}
		for i, p := range got {
			if n, _ := fare.Of(f, l[i]); p.Fare != n || p.Journey != l[i] {
				t.Fatalf("%v: %v, not %d", l[i], p, n)
			}
		}
	}
	if wrong < 300 || wrong > 1700 {
		t.Error("so many with an error:", wrong)
	}
}
