package journey_test

import (
	"math/rand"
	"slices"
	"testing"

	"farebox/api"
	"farebox/journey"
)

// known are the taps that are: rides, and those at a station of the tariff.
func known(f api.Tariff, l []api.Tap) []api.Tap {
	var out []api.Tap
	for _, x := range l {
		if _, is := slowStation(f, x.Place); is || x.Kind == bus {
			out = append(out, x)
		}
	}
	return out
}

func tapsOf(l []api.Tap, kind int) int {
	n := 0
	for _, x := range l {
		if x.Kind == kind {
			n++
		}
	}
	return n
}

func journeysOf(l []api.Journey, kind int) int {
	n := 0
	for _, j := range l {
		if j.Kind == kind {
			n++
		}
	}
	return n
}

// addsUp holds P17.5 of a day's taps and journeys.
func addsUp(t *testing.T, f api.Tariff, l []api.Tap, made []api.Journey) {
	t.Helper()
	_, changes, _ := slowBuild(f, l)
	taken := known(f, l)
	whole := journeysOf(made, api.JourneyWhole)
	if entries := tapsOf(taken, in); entries != journeysOf(made, api.JourneyNoExit)+whole+changes {
		t.Fatalf("%s: %d entries, %d changes: %v", short(l), entries, changes, made)
	}
	if exits := tapsOf(taken, out); exits != journeysOf(made, api.JourneyNoEntry)+whole+changes {
		t.Fatalf("%s: %d exits, %d changes: %v", short(l), exits, changes, made)
	}
	var rides, ridden []int
	for _, x := range taken {
		if x.Kind == bus {
			rides = append(rides, x.Place, x.Time)
		}
	}
	for _, j := range made {
		if j.Kind == api.JourneyBus {
			ridden = append(ridden, j.From, j.Start)
		}
	}
	if !slices.Equal(rides, ridden) {
		t.Fatalf("%s: rides %v, not %v", short(l), ridden, rides)
	}
}

// liesWithin holds P17.6 of a day's taps and journeys.
func liesWithin(t *testing.T, f api.Tariff, l []api.Tap, made []api.Journey) {
	t.Helper()
	for i, j := range made {
		if j.Start < l[0].Time || j.End > l[len(l)-1].Time || j.End < j.Start || j.End > j.Start+f.Longest {
			t.Fatalf("%s: %v", short(l), j)
		}
		if j.Kind != api.JourneyWhole && (j.Start != j.End || j.From != j.To) {
			t.Fatalf("%s: %v", short(l), j)
		}
		isPaidFor := slices.ContainsFunc(made[:i], func(other api.Journey) bool {
			return other.Kind == api.JourneyBus && !other.Free && j.Start-other.Start <= f.Hopper
		})
		if j.Free != (j.Kind == api.JourneyBus && isPaidFor) {
			t.Fatalf("%s: %v", short(l), j)
		}
	}
}

// P17.5 and P17.6: many days, each with a tariff of its own.
func TestManyTariffs(t *testing.T) {
	rnd := rand.New(rand.NewSource(177))
	changes := 0
	for range 20000 {
		f := someTariff(rnd)
		l := someDay(rnd, f)
		made, e := build(t, f, l)
		if e != api.OK {
			t.Fatalf("Build of %s: %d", short(l), e)
		}
		addsUp(t, f, l, made)
		liesWithin(t, f, l, made)
		_, n, _ := slowBuild(f, l)
		changes += n
	}
	if changes < 3000 {
		t.Error("only so many changes:", changes)
	}
}

// P17.5 and P17.6: many days of one token, one tariff: all days' taps are the taps, and the days' journeys add up to them.
func TestManyDays(t *testing.T) {
	rnd := rand.New(rand.NewSource(178))
	for range 300 {
		f := someTariff(rnd)
		l := someDays(rnd)
		all, e := days(t, l)
		if e != api.OK || !slices.Equal(slices.Concat(all...), l) {
			t.Fatalf("Days of %s: %d", short(l), e)
		}
		for _, d := range all {
			made, e := build(t, f, d)
			if e != api.OK {
				t.Fatalf("Build of %s: %d", short(d), e)
			}
			addsUp(t, f, d, made)
			liesWithin(t, f, d, made)
		}
		if len(all) > 1 {
			buildFails(t, f, l, api.ErrTaps)
		}
	}
}

// P17.6: Build hangs on the Time, Kind and Place of known taps alone: not on Token, Device, Counter, nor on taps that are not known.
func TestHangsOn(t *testing.T) {
	rnd := rand.New(rand.NewSource(179))
	for range 5000 {
		f := someTariff(rnd)
		l := someDay(rnd, f)
		want, _ := build(t, f, l)
		for _, other := range [][]api.Tap{renamed(rnd, l), known(f, l), renamed(rnd, known(f, l)), strewn(rnd, l)} {
			if got, e := build(t, f, other); e != api.OK || !slices.Equal(got, want) {
				t.Fatalf("Build of %s: %v, of %s: %v, %d", short(l), want, short(other), got, e)
			}
		}
	}
}

// strewn are taps with some that no tariff of someTariff knows among them.
func strewn(rnd *rand.Rand, l []api.Tap) []api.Tap {
	var mixed []api.Tap
	for _, x := range l {
		for rnd.Intn(3) == 0 {
			mixed = append(mixed, api.Tap{Kind: in + rnd.Intn(2), Place: 9 + 100*rnd.Intn(9), Time: x.Time})
		}
		mixed = append(mixed, x)
	}
	return renamed(rnd, mixed)
}

// P17.3: nothing hangs on what else the tariff says: prices, caps, the peak, zones, Passback, Delay, Threshold.
func TestHangsOnTheTariff(t *testing.T) {
	rnd := rand.New(rand.NewSource(180))
	for range 1000 {
		f := someTariff(rnd)
		l := someDay(rnd, f)
		want, _ := build(t, f, l)
		g := f
		g.Stations = slices.Clone(f.Stations)
		for i := range g.Stations {
			g.Stations[i].Zone = 1
		}
		g.Spans = []api.Span{{From: 1, To: 1, Single: 5, Daily: 6, Weekly: 7}}
		g.Peak = []api.Band{{From: rnd.Intn(700), To: 701 + rnd.Intn(700)}}
		g.Off, g.Bus, g.BusDaily, g.BusWeekly, g.Most = 1, 1, 2, 3, 4
		g.Passback, g.Delay, g.Threshold = rnd.Intn(1441), rnd.Intn(1441), rnd.Intn(100)
		if got, e := build(t, g, l); e != api.OK || !slices.Equal(got, want) {
			t.Fatalf("Build of %s: %v, not %v, %d", short(l), got, want, e)
		}
	}
}

// P17.3, P17.5, P17.6: every day of up to four taps, of few kinds of them, with small minutes.
func TestEveryFewTaps(t *testing.T) {
	f := with(3, 1, 1)
	var some []api.Tap
	for gap := range 3 {
		for _, place := range []int{1, 3, 4, 5} {
			some = append(some, api.Tap{Kind: in, Place: place, Time: gap}, api.Tap{Kind: out, Place: place, Time: gap})
		}
		some = append(some, api.Tap{Kind: bus, Place: 3, Time: gap})
	}
	var l []api.Tap
	var all func(time int)
	all = func(time int) {
		made, e := build(t, f, l)
		if e != api.OK {
			t.Fatal(e)
		}
		if len(l) > 0 {
			addsUp(t, f, l, made)
			liesWithin(t, f, l, made)
		}
		if len(l) == 4 {
			return
		}
		for _, x := range some {
			next := api.Tap{Device: 1, Counter: 1 + len(l), Token: token, Kind: x.Kind, Place: x.Place, Time: time + x.Time}
			l = append(l, next)
			all(next.Time)
			l = l[:len(l)-1]
		}
	}
	all(morning)
}

// FuzzBuilt looks for taps of which something else is made than the chapter tells. Each tap is four bytes: its kind and device, its place, and how far behind the last one it is.
func FuzzBuilt(f *testing.F) {
	f.Add(uint16(120), uint16(10), uint16(60), []byte{1, 1, 0, 0, 2, 3, 0, 30, 1, 4, 0, 5, 2, 2, 0, 25})
	f.Add(uint16(3), uint16(1), uint16(0), []byte{3, 9, 0, 0, 3, 9, 0, 0, 1, 3, 5, 255, 2, 3, 0, 0, 0, 0, 0, 0})
	f.Fuzz(func(t *testing.T, longest, change, hopper uint16, b []byte) {
		tariff := with(int(longest), int(change), int(hopper))
		time := 0
		var l []api.Tap
		for ; len(b) >= 4; b = b[4:] {
			time += int(b[2])<<8 + int(b[3])
			l = append(l, api.Tap{Device: 1 + int(b[0]>>2), Counter: 1 + len(l), Token: token, Kind: int(b[0] & 3), Place: int(b[1]), Time: time})
		}
		right(t, l)
		days(t, l)
		made, e := build(t, tariff, l)
		if e == api.OK && len(l) > 0 {
			addsUp(t, tariff, l, made)
			liesWithin(t, tariff, l, made)
		}
		for i := 1; i < len(l); i++ {
			orderIs(t, l[i-1], l[i], slowOrder(l[i-1], l[i]))
		}
		if all, e := journey.Days(l); e == api.OK {
			for _, d := range all {
				build(t, tariff, d)
			}
		}
	})
}
