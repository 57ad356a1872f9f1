package tariff_test

import (
	"fmt"
	"math"
	"math/big"
	"math/rand"
	"testing"

	"farebox/api"
	"farebox/tariff"
)

func wantStation(t *testing.T, p api.Tariff, id int, want api.Station, is bool) {
	t.Helper()
	if got, ok := tariff.Station(p, id); got != want || ok != is {
		t.Errorf("Station(%v, %d): %v, %t, not %v", p.Stations, id, got, ok, want)
	}
}

func wantSpan(t *testing.T, p api.Tariff, a, b int, want api.Span, is bool) {
	t.Helper()
	if got, ok := tariff.Span(p, a, b); got != want || ok != is {
		t.Errorf("Span(%v, %d, %d): %v, %t, not %v", p.Spans, a, b, got, ok, want)
	}
}

func wantSingle(t *testing.T, p api.Tariff, a, b int, peak bool, want int, wantE api.Errno) {
	t.Helper()
	if got, e := tariff.Single(p, a, b, peak); got != want || e != wantE {
		t.Errorf("Single(%v, Off %v; %d, %d, %t): %d, %d, not %d, %d", p.Spans, p.Off, a, b, peak, got, e, want, wantE)
	}
}

// P7.2, P7.3: the chapter's examples.
func TestAsksOfTheChapter(t *testing.T) {
	p := ofTheChapter()
	wantStation(t, p, 2, api.Station{Id: 2, Zone: 2, Group: 7}, true)
	wantStation(t, p, 3, api.Station{}, false)
	wantSpan(t, p, 2, 1, api.Span{From: 1, To: 2, Single: 300, Daily: 700, Weekly: 2800}, true)
	wantSingle(t, p, 2, 1, true, 300, api.OK)
	wantSingle(t, p, 1, 2, false, 150, api.OK)
	wantSingle(t, p, 1, 3, true, 0, api.ErrArg)
}

// P7.2: each station of a tariff that may be, and none beside them.
func TestStation(t *testing.T) {
	p := oneZone(200)
	for i := range p.Stations {
		p.Stations[i] = api.Station{Id: 3*i + 1, Zone: 1 + i%9, Group: i}
	}
	for i, s := range p.Stations {
		wantStation(t, p, s.Id, s, true)
		wantStation(t, p, s.Id+1, api.Station{}, false)
		wantStation(t, p, -s.Id, api.Station{}, false)
		wantStation(t, p, s.Id+1<<32, api.Station{}, false)
		if i > 0 {
			wantStation(t, p, s.Id-1, api.Station{}, false)
		}
	}
	for _, id := range []int{0, -1, 65535, 65536, math.MinInt, math.MaxInt} {
		wantStation(t, p, id, api.Station{}, false)
		wantStation(t, api.Tariff{}, id, api.Station{}, false)
		wantStation(t, api.Tariff{Stations: []api.Station{}}, id, api.Station{}, false)
	}
}

// P7.2: of a tariff that may not be too: the first one, whatever its Id, its Zone, its place.
func TestStationOfAny(t *testing.T) {
	p := api.Tariff{Stations: []api.Station{{Id: 5, Zone: -3, Group: -4}, {Id: 2, Zone: 1}, {Id: 5, Zone: 2, Group: 9}, {Id: 0, Zone: 77}, {Id: -1, Group: 3}, {Id: math.MinInt, Zone: 8}, {Id: math.MaxInt, Zone: 9}, {Id: 2, Zone: 4}, {Id: 1}, {}}}
	for id, want := range map[int]api.Station{5: {Id: 5, Zone: -3, Group: -4}, 2: {Id: 2, Zone: 1}, 0: {Id: 0, Zone: 77}, -1: {Id: -1, Group: 3}, math.MinInt: {Id: math.MinInt, Zone: 8}, math.MaxInt: {Id: math.MaxInt, Zone: 9}, 1: {Id: 1}} {
		wantStation(t, p, id, want, true)
	}
	for _, id := range []int{3, 4, 9, 77, -3} {
		wantStation(t, p, id, api.Station{}, false)
	}
	wantStation(t, api.Tariff{Stations: []api.Station{{}}}, 0, api.Station{}, true)
	long := append(make([]api.Station, 1<<20), api.Station{Id: 4, Zone: 3})
	wantStation(t, api.Tariff{Stations: long}, 4, api.Station{Id: 4, Zone: 3}, true)
}

// P7.2: every two zones of a tariff that may be, in either order.
func TestSpan(t *testing.T) {
	for zones := 1; zones <= 9; zones++ {
		p := zoned(zones)
		for i := range p.Spans {
			p.Spans[i].Single, p.Spans[i].Daily, p.Spans[i].Weekly = i, 100+i, 200+i
		}
		for _, s := range p.Spans {
			wantSpan(t, p, s.From, s.To, s, true)
			wantSpan(t, p, s.To, s.From, s, true)
		}
		for _, beside := range []int{0, -1, zones + 1, 10, 1<<32 + 1, math.MinInt, math.MaxInt} {
			for zone := 1; zone <= zones; zone++ {
				wantSpan(t, p, beside, zone, api.Span{}, false)
				wantSpan(t, p, zone, beside, api.Span{}, false)
				wantSpan(t, p, beside, beside, api.Span{}, false)
			}
		}
	}
	wantSpan(t, api.Tariff{}, 1, 1, api.Span{}, false)
	wantSpan(t, api.Tariff{}, 0, 0, api.Span{}, false)
	wantSpan(t, api.Tariff{Spans: []api.Span{}}, 1, 2, api.Span{}, false)
}

// P7.2: of a tariff that may not be too: the first one; one whose From is above its To is never it.
func TestSpanOfAny(t *testing.T) {
	p := api.Tariff{Spans: []api.Span{{From: 2, To: 1, Single: 1}, {From: 1, To: 3, Single: -5, Daily: -6, Weekly: math.MinInt}, {From: 1, To: 2, Single: 2}, {From: 1, To: 2, Single: 3}, {From: 1, To: 3, Single: 4}, {From: 5, To: 4, Single: 5}, {From: 0, To: 0, Single: 6}, {From: -4, To: 7, Single: 7}, {From: math.MinInt, To: math.MaxInt, Single: 8}, {From: math.MaxInt, To: math.MinInt, Single: 9}, {From: math.MinInt, To: math.MinInt, Single: 10}, {}}}
	for zones, want := range map[[2]int]api.Span{
		{1, 2}: {From: 1, To: 2, Single: 2}, {1, 3}: {From: 1, To: 3, Single: -5, Daily: -6, Weekly: math.MinInt}, {0, 0}: {Single: 6}, {-4, 7}: {From: -4, To: 7, Single: 7},
		{math.MinInt, math.MaxInt}: {From: math.MinInt, To: math.MaxInt, Single: 8}, {math.MinInt, math.MinInt}: {From: math.MinInt, To: math.MinInt, Single: 10},
	} {
		wantSpan(t, p, zones[0], zones[1], want, true)
		wantSpan(t, p, zones[1], zones[0], want, true)
	}
	for _, zones := range [][2]int{{4, 5}, {5, 4}, {1, 1}, {3, 3}, {2, 3}, {-7, 4}, {math.MaxInt, math.MaxInt}} {
		wantSpan(t, p, zones[0], zones[1], api.Span{}, false)
	}
	wantSpan(t, api.Tariff{Spans: []api.Span{{}}}, 0, 0, api.Span{}, true)
	long := append(make([]api.Span, 1<<20), api.Span{From: 4, To: 8, Weekly: 3})
	wantSpan(t, api.Tariff{Spans: long}, 8, 4, api.Span{From: 4, To: 8, Weekly: 3}, true)
}

// slowOff is chapter 5's Scale, told as it stands there, in numbers that have no end.
func slowOff(single int, off float64) int {
	product := new(big.Rat).SetFloat64(off)
	product.Mul(product, new(big.Rat).SetInt64(int64(single)))
	product.Add(product, big.NewRat(1, 2))
	return int(new(big.Int).Div(product.Num(), product.Denom()).Int64())
}

// P7.3: prices and rates at their edges; a half is rounded up.
func TestSingle(t *testing.T) {
	for _, single := range []int{0, 1, 2, 3, 5, 150, 175, 251, 300, maxFare - 1, maxFare} {
		for _, off := range someRates() {
			p := ofTheChapter()
			p.Spans[1].Single, p.Off = single, off
			for _, zones := range [][2]int{{1, 2}, {2, 1}} {
				wantSingle(t, p, zones[0], zones[1], true, single, api.OK)
				wantSingle(t, p, zones[0], zones[1], false, slowOff(single, off), api.OK)
			}
		}
	}
	p := ofTheChapter()
	p.Spans[1].Single = 175
	wantSingle(t, p, 1, 2, false, 88, api.OK)
	wantSingle(t, p, 1, 1, false, 100, api.OK)
	wantSingle(t, p, 2, 2, true, 150, api.OK)
}

// P7.3: no such span, though all else may not be either.
func TestSingleOfNoSpan(t *testing.T) {
	for _, p := range []api.Tariff{ofTheChapter(), {}, {Off: math.NaN()}, {Off: 2, Spans: []api.Span{{From: 2, To: 1, Single: -1}, {From: 3, To: 1, Single: 5}}}} {
		for _, zones := range [][2]int{{1, 3}, {3, 1}, {0, 1}, {0, 0}, {-1, 2}, {3, 3}, {math.MinInt, math.MaxInt}, {math.MaxInt, 1}} {
			wantSingle(t, p, zones[0], zones[1], true, 0, api.ErrArg)
			wantSingle(t, p, zones[0], zones[1], false, 0, api.ErrArg)
		}
	}
}

// P7.3: a Single that is no price, in the peak and out of it, whatever Off is.
func TestSingleOfNoPrice(t *testing.T) {
	for _, single := range notPrices() {
		for _, off := range append(notRates(), someRates()...) {
			p := ofTheChapter()
			p.Spans[1].Single, p.Off = single, off
			wantSingle(t, p, 2, 1, true, 0, api.ErrMoney)
			wantSingle(t, p, 2, 1, false, 0, api.ErrMoney)
			wantSingle(t, p, 1, 1, true, 200, api.OK)
		}
	}
}

// P7.3: an Off that is no rate is asked out of the peak only.
func TestSingleOfNoRate(t *testing.T) {
	for _, off := range notRates() {
		for _, single := range []int{0, 1, 300, maxFare} {
			p := ofTheChapter()
			p.Spans[1].Single, p.Off = single, off
			wantSingle(t, p, 1, 2, true, single, api.OK)
			wantSingle(t, p, 1, 2, false, 0, api.ErrRate)
		}
	}
}

// P7.3: of a tariff that may not be the first span counts; nothing else of it is asked.
func TestSingleOfAny(t *testing.T) {
	p := api.Tariff{Spans: []api.Span{{From: 2, To: 1, Single: 1}, {From: 1, To: 2, Single: 40, Daily: -1, Weekly: math.MaxInt}, {From: 1, To: 2, Single: -1}, {From: -3, To: 12, Single: -1}, {From: -3, To: 12, Single: 10}}, Off: 0.25, Bus: -1, Longest: -1}
	wantSingle(t, p, 2, 1, true, 40, api.OK)
	wantSingle(t, p, 2, 1, false, 10, api.OK)
	wantSingle(t, p, 12, -3, true, 0, api.ErrMoney)
	wantSingle(t, p, -3, 12, false, 0, api.ErrMoney)
}

// someTariffs are such as may be, and such as may not, with lists that are long, empty and nil.
func someTariffs() []api.Tariff {
	l := []api.Tariff{{}, ofTheChapter(), ofTheWhole(), zoned(9), oneZone(200), oneZone(1000), {Stations: []api.Station{}, Spans: []api.Span{}, Peak: []api.Band{}}}
	n := math.MinInt
	l = append(l, api.Tariff{Stations: []api.Station{{Id: n, Zone: n, Group: n}}, Spans: []api.Span{{From: n, To: n, Single: n, Daily: n, Weekly: n}}, Peak: []api.Band{{From: n, To: n}}, Bus: n, BusDaily: n + 1, BusWeekly: n + 2, Hopper: n + 3, Most: n + 4, Longest: n + 5, Change: n + 6, Passback: n + 7, Delay: n + 8, Threshold: n + 9})
	for _, off := range notRates() {
		p := ofTheWhole()
		p.Off = off
		l = append(l, p)
	}
	rnd := rand.New(rand.NewSource(74))
	for range 200 {
		p := anyRight(rnd)
		poke(rnd, &p)
		l = append(l, p)
	}
	return l
}

// P7.4: a clone is the tariff, whatever is in it; Off has the same bits.
func TestClone(t *testing.T) {
	for _, p := range someTariffs() {
		wantSame(t, "Clone", tariff.Clone(p), p)
		if a, b := tariff.Right(p), tariff.Right(tariff.Clone(p)); a != b {
			t.Errorf("Right(%v): %d, of its clone %d", p, a, b)
		}
	}
}

// scribble fills all memory of a tariff's lists, the spare room too.
func scribble(p api.Tariff) {
	p = spread(p)
	for i := range p.Stations {
		p.Stations[i] = api.Station{Id: -9, Zone: -9, Group: -9}
	}
	for i := range p.Spans {
		p.Spans[i] = api.Span{From: -9, To: -9, Single: -9, Daily: -9, Weekly: -9}
	}
	for i := range p.Peak {
		p.Peak[i] = api.Band{From: -9, To: -9}
	}
}

// P7.4: what is answered is new memory, its spare room too: writing to it changes neither the argument nor another answer.
func TestCloneIsNewMemory(t *testing.T) {
	for _, given := range someTariffs() {
		p, seen := roomy(given)
		before := apart(seen())
		a, b := tariff.Clone(p), tariff.Clone(p)
		scribble(a)
		wantSame(t, "the argument behind a change of its clone", seen(), before)
		wantSame(t, "another clone", b, given)
		a.Stations, a.Spans, a.Peak = append(a.Stations, api.Station{}), append(a.Spans, api.Span{}), append(a.Peak, api.Band{})
		wantSame(t, "the argument behind more in its clone", seen(), before)
		again := tariff.Clone(b)
		scribble(b)
		wantSame(t, "a clone's clone", again, given)
	}
}

// P7.4: nothing of the argument is kept: writing to it changes no answer.
func TestCloneKeepsNothing(t *testing.T) {
	for _, given := range someTariffs() {
		p, _ := roomy(given)
		c := tariff.Clone(p)
		whole := apart(spread(c))
		scribble(p)
		wantSame(t, "the clone behind a change of the argument", c, given)
		wantSame(t, "its spare room", spread(c), whole)
	}
}

// P7.4, W6: no call changes what is handed in, nor its spare room; what was asked before counts for nothing.
func TestNothingIsChanged(t *testing.T) {
	for _, given := range someTariffs() {
		p, seen := roomy(given)
		before := apart(seen())
		right := tariff.Right(p)
		tariff.Station(p, 1)
		tariff.Span(p, 2, 1)
		tariff.Single(p, 2, 1, true)
		tariff.Single(p, 1, 1, false)
		tariff.Clone(p)
		wantSame(t, "the argument", seen(), before)
		scribble(p)
		wantStation(t, p, 1, api.Station{}, false)
		wantSpan(t, p, 2, 1, api.Span{}, false)
		if got := tariff.Right(given); got != right {
			t.Errorf("Right(%v): %d, then %d", given, right, got)
		}
	}
}

// P7.2: what lies in a list's spare room is not asked.
func TestSpareRoomIsNotAsked(t *testing.T) {
	p, _ := roomy(ofTheChapter())
	wantStation(t, p, 77, api.Station{}, false)
	wantSpan(t, p, 7, 7, api.Span{}, false)
	wantSingle(t, p, 7, 7, true, 0, api.ErrArg)
	wantRight(t, "with spare room", p, api.OK)
}

// fares are those from a zone to another one, in the peak and out of it.
func fares(t *testing.T, p api.Tariff, a, b int) [2]int {
	t.Helper()
	in, e := tariff.Single(p, a, b, true)
	out, e2 := tariff.Single(p, a, b, false)
	if e != api.OK || e2 != api.OK {
		t.Fatalf("Single(%v; %d, %d): %d, %d", p, a, b, e, e2)
	}
	return [2]int{in, out}
}

// wantFollows is P7.5 of one tariff.
func wantFollows(t *testing.T, p api.Tariff) {
	t.Helper()
	wantRight(t, fmt.Sprint(p), p, api.OK)
	for _, outer := range p.Spans {
		there := fares(t, p, outer.From, outer.To)
		if back := fares(t, p, outer.To, outer.From); there != back || there[1] > there[0] {
			t.Errorf("%v: %v there, %v back", outer, there, back)
		}
		for _, s := range p.Spans {
			if within := fares(t, p, s.From, s.To); isIn(s, outer) && (within[0] > there[0] || within[1] > there[1]) {
				t.Errorf("%v: %v, but %v within %v", s, within, there, outer)
			}
		}
	}
}

// P7.5: the way back costs as much, out of the peak no more, and what lies within no more.
func TestFaresFollow(t *testing.T) {
	for _, off := range someRates() {
		for _, p := range []api.Tariff{ofTheChapter(), ofTheWhole(), zoned(1), zoned(9)} {
			p.Off = off
			wantFollows(t, p)
		}
	}
	rnd := rand.New(rand.NewSource(75))
	for range 300 {
		p := anyRight(rnd)
		wantFollows(t, p)
		p.Off = rnd.Float64()
		wantFollows(t, p)
	}
}
