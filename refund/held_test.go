package refund_test

import (
	"math"
	"math/rand"
	"testing"

	"farebox/api"
)

// P20.2: the chapter's examples, and that of the document's whole.
func TestChapter(t *testing.T) {
	f, l := ofTheChapter(), one(3, 500, 560)
	isHeld(t, f, l, lone(noExit, 3, 500))
	isNotHeld(t, f, l, lone(noExit, 3, 560))
	isNotHeld(t, f, l, lone(noEntry, 2, 510))
	isHeld(t, f, l, between(whole, 1, 3, 480, 500))
	isNotHeld(t, f, l, between(whole, 1, 3, 480, 494))
	isNotHeld(t, f, l, between(whole, 1, 3, 480, 499))
	isHeld(t, f, l, between(whole, 3, 1, 559, 590))
	isNotHeld(t, f, l, between(whole, 3, 1, 560, 590))
	isHeld(t, f, one(1, 480, 481), lone(noExit, 1, 480))
}

// P20.2: of journeys that have one tap alone: which minutes of the outage hold them up.
func TestLoneStarts(t *testing.T) {
	f, l := ofTheChapter(), one(3, 500, 560)
	for _, kind := range []int{noExit, noEntry} {
		for start, want := range map[int]bool{0: false, 498: false, 499: false, 500: true, 501: true, 530: true, 558: true, 559: true, 560: false, 561: false, 1940: false, maxTime: false, -1: false, -500: false, math.MinInt: false, math.MaxInt: false} {
			heldIs(t, f, l, lone(kind, 3, start), want)
			heldIs(t, f, l, free(lone(kind, 3, start)), want)
		}
		isHeld(t, f, one(3, 0, 1), lone(kind, 3, 0))
		isNotHeld(t, f, one(3, 0, 1), lone(kind, 3, 1))
		isHeld(t, f, one(3, maxTime-1, maxTime), lone(kind, 3, maxTime-1))
		isNotHeld(t, f, one(3, maxTime-1, maxTime), lone(kind, 3, maxTime))
		isNotHeld(t, f, one(3, 1, maxTime), lone(kind, 3, 0))
	}
}

// P20.2: of journeys that have one tap alone: the outage's Station is the journey's From; no matter what its To is, or its End, or the Delay, or whether the tariff has such a station.
func TestLonePlaces(t *testing.T) {
	for _, delay := range []int{0, 15, 1440} {
		f, l := delayed(delay), one(3, 500, 560)
		for _, kind := range []int{noExit, noEntry} {
			isHeld(t, f, l, lone(kind, 3, 510))
			for _, other := range append(notStations(), 1, 2, 4, 30, maxStation) {
				isNotHeld(t, f, l, lone(kind, other, 510))
				isNotHeld(t, f, l, between(kind, other, 3, 510, 510))
				isNotHeld(t, f, l, between(kind, other, 3, 510, 540))
				isHeld(t, f, l, between(kind, 3, other, 510, 510))
			}
			for _, end := range append(notTimes(), 0, 499, 509, 511, 560, 600, maxTime) {
				isHeld(t, f, l, between(kind, 3, 3, 510, end))
				isNotHeld(t, f, l, between(kind, 3, 3, 560, end))
				isNotHeld(t, f, l, between(kind, 3, 3, 499, end))
			}
			for _, place := range []int{1, 4, 77, maxStation} {
				isHeld(t, f, one(place, 500, 560), lone(kind, place, 510))
			}
		}
	}
}

// P20.2: of whole journeys: the outage's Station is the journey's From, its To, both, neither.
func TestWholePlaces(t *testing.T) {
	f := ofTheChapter()
	for _, place := range []int{1, 2, 3, 4, 77, maxStation} {
		l := one(place, 500, 560)
		isHeld(t, f, l, between(whole, place, 9, 510, 540))
		isHeld(t, f, l, between(whole, 9, place, 510, 540))
		isHeld(t, f, l, between(whole, place, place, 510, 540))
		isNotHeld(t, f, l, between(whole, 9, 9, 510, 540))
		isNotHeld(t, f, l, between(whole, 8, 9, 510, 540))
		isNotHeld(t, f, l, between(whole, place-1, place+1, 510, 540))
		for _, other := range notStations() {
			isHeld(t, f, l, between(whole, place, other, 510, 540))
			isHeld(t, f, l, between(whole, other, place, 510, 540))
			isNotHeld(t, f, l, between(whole, other, other, 510, 540))
		}
		isHeld(t, f, l, free(between(whole, place, 9, 510, 540)))
	}
}

// P20.2: of whole journeys: the End is Delay minutes behind the Start, one less, one more.
func TestWholeDelay(t *testing.T) {
	for _, delay := range []int{0, 1, 2, 14, 15, 16, 120, 1439, 1440} {
		f := delayed(delay)
		for _, start := range []int{0, 1, 500, 700, 1 << 20, maxTime - 1442} {
			for _, l := range [][]api.Outage{one(3, 0, maxTime), one(3, max(0, start-1), start+1), one(3, start, start+1)} {
				for _, x := range [][2]int{{3, 1}, {1, 3}, {3, 3}} {
					for more := -2; more <= 2; more++ {
						heldIs(t, f, l, between(whole, x[0], x[1], start, start+delay+more), more >= 0 && start+delay+more >= 0)
					}
				}
			}
		}
		l := one(3, 0, maxTime)
		isHeld(t, f, l, between(whole, 3, 1, maxTime-delay-1, maxTime-1))
		isHeld(t, f, l, between(whole, 3, 1, 0, maxTime))
		heldIs(t, f, l, between(whole, 3, 1, maxTime-delay, maxTime), delay > 0)
		isNotHeld(t, f, l, between(whole, 3, 1, maxTime-delay+1, maxTime))
	}
}

// P20.2: of whole journeys: an outage that begins ahead of the journey, at its Start, at its End, one behind its End; that ends at the journey's Start, one behind it, one ahead of it.
func TestWholeTimes(t *testing.T) {
	f := ofTheChapter()
	for _, x := range [][2]int{{3, 1}, {1, 3}, {3, 3}} {
		j := between(whole, x[0], x[1], 600, 620)
		for from, want := range map[int]bool{0: true, 500: true, 599: true, 600: true, 601: true, 610: true, 619: true, 620: true, 621: false, 622: false, 700: false, maxTime - 1: false} {
			heldIs(t, f, one(3, from, from+1+max(0, 620-from)), j, want)
			heldIs(t, f, one(3, from, maxTime), j, want)
			heldIs(t, f, one(3, from, max(from+1, 601)), j, want)
		}
		for to, want := range map[int]bool{1: false, 100: false, 598: false, 599: false, 600: false, 601: true, 602: true, 619: true, 620: true, 621: true, 700: true, maxTime: true} {
			heldIs(t, f, one(3, 0, to), j, want)
			heldIs(t, f, one(3, min(to, 620)-1, to), j, want)
		}
	}
	isHeld(t, f, one(3, 0, 1), between(whole, 3, 1, 0, 15))
	isHeld(t, f, one(3, 15, 16), between(whole, 3, 1, 0, 15))
	isNotHeld(t, f, one(3, 16, 17), between(whole, 3, 1, 0, 15))
	isHeld(t, f, one(3, maxTime-1, maxTime), between(whole, 3, 1, 0, maxTime))
	isHeld(t, f, one(3, maxTime-1, maxTime), between(whole, 3, 1, maxTime-100, maxTime-1))
	isNotHeld(t, f, one(3, maxTime-1, maxTime), between(whole, 3, 1, maxTime-100, maxTime-2))
}

// P20.2: every short whole journey and outage: there is a minute that lies in both, the journey's last one among its own.
func TestWholeMinutes(t *testing.T) {
	for delay := range 4 {
		f := delayed(delay)
		for start := range 7 {
			for end := start; end < 7; end++ {
				for from := range 7 {
					for to := from + 1; to < 8; to++ {
						shared := false
						for minute := start; minute <= end; minute++ {
							shared = shared || minute >= from && minute < to
						}
						want := shared && end-start >= delay
						heldIs(t, f, one(3, from, to), between(whole, 3, 1, start, end), want)
						heldIs(t, f, one(3, from, to), between(whole, 1, 3, start, end), want)
						isNotHeld(t, f, one(3, from, to), between(whole, 1, 2, start, end))
					}
				}
			}
		}
	}
}

// P20.2: Start and End that are no times, each alone and both, also where their difference would not fit.
func TestWholeNoTimes(t *testing.T) {
	for _, delay := range []int{0, 1, 15, 1440} {
		f := delayed(delay)
		for _, l := range [][]api.Outage{one(3, 0, maxTime), one(3, 500, 560), one(3, math.MinInt, math.MaxInt)} {
			isHeld(t, f, l, between(whole, 3, 1, 0, maxTime))
			isHeld(t, f, l, between(whole, 3, 3, 0, 1999))
			for _, n := range notTimes() {
				for _, time := range []int{0, 1, 480, 500, 510, 560, 2000, maxTime - 1, maxTime} {
					isNotHeld(t, f, l, between(whole, 3, 1, n, time))
					isNotHeld(t, f, l, between(whole, 1, 3, time, n))
				}
				for _, other := range notTimes() {
					isNotHeld(t, f, l, between(whole, 3, 3, n, other))
				}
			}
		}
	}
	anyDelay := with(func(f *api.Tariff) { f.Delay = math.MinInt })
	for _, n := range notTimes() {
		isNotHeld(t, anyDelay, one(3, math.MinInt, math.MaxInt), between(whole, 3, 1, n, 500))
		isNotHeld(t, anyDelay, one(3, math.MinInt, math.MaxInt), between(whole, 3, 1, 500, n))
	}
}

// P20.2: an End ahead of the Start.
func TestEndAheadOfStart(t *testing.T) {
	for _, delay := range []int{0, 1, 15, 1440} {
		f := delayed(delay)
		for _, x := range [][2]int{{510, 509}, {510, 501}, {559, 500}, {2000, 510}, {1, 0}, {maxTime, maxTime - 1}, {maxTime, 0}} {
			isNotHeld(t, f, one(3, 0, maxTime), between(whole, 3, 1, x[0], x[1]))
			isNotHeld(t, f, one(3, 500, 560), between(whole, 1, 3, x[0], x[1]))
		}
	}
	for _, kind := range []int{noExit, noEntry} {
		isHeld(t, ofTheChapter(), one(3, 500, 560), between(kind, 3, 3, 510, 0))
	}
}

// P20.2: rides, and journeys whose Kind is none of the four, are never held up.
func TestOtherKinds(t *testing.T) {
	for _, delay := range []int{0, 15, math.MinInt} {
		f := delayed(delay)
		for _, l := range [][]api.Outage{one(9, 0, maxTime), one(9, 500, 560), {outage(9, 500, 560), outage(9, 0, maxTime), outage(9, 500, 501)}, one(9, math.MinInt, math.MaxInt)} {
			for _, kind := range append(notKinds(), bus) {
				isNotHeld(t, f, l, lone(kind, 9, 500))
				isNotHeld(t, f, l, free(lone(kind, 9, 510)))
				isNotHeld(t, f, l, between(kind, 9, 1, 500, 540))
				isNotHeld(t, f, l, between(kind, 1, 9, 500, 540))
				isNotHeld(t, f, l, between(kind, 9, 9, 500, 2000))
			}
			for _, kind := range []int{whole, noExit, noEntry} {
				isHeld(t, f, l, between(kind, 9, 9, 500, 2000))
			}
		}
	}
}

// P20.2, W5: without outages nothing is held up.
func TestHeldByNone(t *testing.T) {
	rnd := rand.New(rand.NewSource(203))
	for range 300 {
		j := somePriced(rnd).Journey
		for _, f := range []api.Tariff{ofTheChapter(), delayed(0), {}} {
			isNotHeld(t, f, nil, j)
			isNotHeld(t, f, []api.Outage{}, j)
		}
	}
}

// P20.2: of several outages: the first alone holds it up, one in the middle, the last alone, none, more than one, all.
func TestHeldByOneOfSeveral(t *testing.T) {
	f := ofTheChapter()
	for _, j := range []api.Journey{between(whole, 3, 1, 480, 510), between(whole, 1, 3, 480, 510), lone(noExit, 3, 500), lone(noEntry, 3, 559)} {
		for _, many := range []int{1, 2, 3, 100, 101, 1000} {
			isNotHeld(t, f, manyOutages(many), j)
			for _, i := range []int{0, many / 2, many - 1} {
				l := manyOutages(many)
				l[i] = outage(3, 500, 560)
				isHeld(t, f, l, j)
				l[0] = outage(3, 0, maxTime)
				isHeld(t, f, l, j)
			}
			all := manyOutages(many)
			for i := range all {
				all[i] = outage(3, 500, 560)
			}
			isHeld(t, f, all, j)
		}
	}
	for i := range 100 {
		l := manyOutages(100)
		l[i] = outage(3, 500, 560)
		isHeld(t, f, l, lone(noExit, 3, 510))
	}
}

// P20.2: no two outages hold up together what none of them does alone.
func TestOutagesAreAskedOneByOne(t *testing.T) {
	f := ofTheChapter()
	l := []api.Outage{outage(3, 500, 510), outage(3, 520, 530), outage(1, 600, 700)}
	isNotHeld(t, f, l, lone(noExit, 3, 515))
	isNotHeld(t, f, l, lone(noEntry, 3, 650))
	isNotHeld(t, f, l, lone(noEntry, 1, 505))
	isNotHeld(t, f, l, between(whole, 3, 2, 530, 599))
	isNotHeld(t, f, l, between(whole, 2, 1, 505, 525))
	isHeld(t, f, l, between(whole, 3, 2, 510, 525))
	isHeld(t, f, l, between(whole, 3, 1, 580, 600))
}

// P20.2: outages that may not be are told of as the promise says, with no error.
func TestHeldByWrongOutages(t *testing.T) {
	f := ofTheChapter()
	for _, n := range notStations() {
		isHeld(t, f, one(n, 500, 560), lone(noExit, n, 510))
		isHeld(t, f, one(n, 500, 560), lone(noEntry, n, 510))
		isHeld(t, f, one(n, 500, 560), between(whole, n, 1, 510, 540))
		isHeld(t, f, one(n, 500, 560), between(whole, 1, n, 510, 540))
		isNotHeld(t, f, one(n, 500, 560), lone(noExit, 3, 510))
		isNotHeld(t, f, one(n, 500, 560), between(whole, 3, 1, 510, 540))
	}
	isHeld(t, f, one(3, -5, 0), lone(noExit, 3, -5))
	isHeld(t, f, one(3, -5, 0), lone(noExit, 3, -1))
	isNotHeld(t, f, one(3, -5, 0), lone(noExit, 3, 0))
	isHeld(t, f, one(3, math.MinInt, math.MinInt+1), lone(noEntry, 3, math.MinInt))
	isHeld(t, f, one(3, math.MaxInt-1, math.MaxInt), lone(noEntry, 3, math.MaxInt-1))
	isNotHeld(t, f, one(3, math.MinInt, math.MaxInt), lone(noEntry, 3, math.MaxInt))
	isHeld(t, f, one(3, math.MinInt, math.MaxInt), lone(noEntry, 3, 500))
	isHeld(t, f, one(3, math.MinInt, math.MaxInt), between(whole, 3, 1, 500, 540))
	isHeld(t, f, one(3, maxTime, math.MaxInt), between(whole, 3, 1, 500, maxTime))
	isNotHeld(t, f, one(3, math.MinInt, 0), between(whole, 3, 1, 0, 40))
	isHeld(t, f, one(3, math.MinInt, 1), between(whole, 3, 1, 0, 40))
	isNotHeld(t, f, one(3, maxTime+1, math.MaxInt), between(whole, 3, 1, 500, maxTime))
	for _, x := range [][2]int{{520, 520}, {530, 515}, {540, 511}} {
		isNotHeld(t, f, one(3, x[0], x[1]), lone(noExit, 3, 520))
		isHeld(t, f, one(3, x[0], x[1]), between(whole, 3, 1, 510, 540))
	}
	isNotHeld(t, f, one(3, math.MaxInt, math.MinInt), between(whole, 3, 1, 510, 540))
	isNotHeld(t, f, []api.Outage{{}}, api.Journey{})
	isNotHeld(t, f, []api.Outage{{}}, lone(noExit, 0, 0))
	isNotHeld(t, delayed(0), []api.Outage{{}}, lone(whole, 0, 0))
}

// P20.2: tariffs that may not be are told of as the promise says, with no error: only the Delay is asked.
func TestHeldByWrongTariffs(t *testing.T) {
	l := one(3, 500, 560)
	for _, x := range wrongTariffs() {
		f := x.tariff
		isHeld(t, f, l, lone(noExit, 3, 510))
		isNotHeld(t, f, l, lone(noEntry, 3, 560))
		for _, delay := range []int{0, 15, 1440, 1441, 5000} {
			f.Delay = delay
			isHeld(t, f, l, between(whole, 3, 1, 510, 510+delay))
			isNotHeld(t, f, l, between(whole, 3, 1, 510, 509+delay))
		}
	}
	for _, delay := range []int{maxTime + 1, 1 << 53, math.MaxInt - 1, math.MaxInt} {
		isNotHeld(t, delayed(delay), one(3, 0, maxTime), between(whole, 3, 1, 0, maxTime))
		isHeld(t, delayed(delay), one(3, 0, maxTime), lone(noExit, 3, 510))
	}
	isHeld(t, delayed(maxTime), one(3, 0, maxTime), between(whole, 3, 1, 0, maxTime))
	isNotHeld(t, delayed(maxTime), one(3, 0, maxTime), between(whole, 3, 1, 1, maxTime))
	isHeld(t, delayed(-5), l, between(whole, 3, 1, 515, 510))
	isNotHeld(t, delayed(-5), l, between(whole, 3, 1, 516, 510))
	for _, delay := range []int{-maxTime, -1 << 53, math.MinInt + 1, math.MinInt} {
		isHeld(t, delayed(delay), l, between(whole, 3, 1, 520, 510))
		isHeld(t, delayed(delay), one(3, 0, maxTime+1), between(whole, 3, 1, maxTime, 0))
		isNotHeld(t, delayed(delay), l, between(whole, 3, 1, 520, 499))
		isNotHeld(t, delayed(delay), l, between(whole, 3, 1, 560, 510))
	}
}

// P20.2: any of them.
func TestAnyHeld(t *testing.T) {
	rnd := rand.New(rand.NewSource(204))
	many := map[bool]int{}
	for range 40000 {
		f, l, j := someTariff(rnd), someOutages(rnd, 15), somePriced(rnd).Journey
		for rnd.Intn(3) == 0 {
			j = spoiltJourney(rnd, j)
		}
		for len(l) > 0 && rnd.Intn(3) == 0 {
			i := rnd.Intn(len(l))
			l[i] = spoiltOutage(rnd, l[i])
		}
		if rnd.Intn(5) == 0 {
			f.Delay = anyNumber(rnd)
		}
		many[held(t, f, l, j)]++
	}
	if many[true] < 4000 || many[false] < 4000 {
		t.Error("only so many:", many)
	}
}
