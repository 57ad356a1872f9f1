package fare_test

import (
	"math"
	"math/rand"
	"testing"

	"farebox/api"
)

// P18.1: the chapter's examples, and those of the document's whole that are fares.
func TestChapter(t *testing.T) {
	f := ofTheChapter()
	ofIs(t, f, between(whole, 1, 2, 480, 510), 300)
	ofIs(t, f, between(whole, 1, 2, 600, 630), 150)
	ofIs(t, f, between(whole, 1, 2, at(6, 8, 0), at(6, 8, 30)), 150)
	ofIs(t, f, lone(noExit, 1, 480), 900)
	ofIs(t, f, lone(bus, 9, 480), 175)
	ofIs(t, f, free(lone(bus, 9, 480)), 0)
	ofFails(t, f, between(whole, 1, 3, 480, 510), api.ErrArg)
	ofFails(t, f, lone(5, 1, 480), api.ErrArg)
	ofFails(t, f, between(whole, 1, 2, 480, 479), api.ErrTime)
	ofIs(t, f, lone(noEntry, 2, at(1, 8, 0)), 900)
	ofIs(t, f, between(whole, 1, 2, at(6, 23, 0), at(7, 0, 30)), 150)
}

// P18.1: each of the four kinds has its own number of the tariff, and hangs on no other one.
func TestEachKind(t *testing.T) {
	f := zoned()
	ofIs(t, f, between(whole, 10, 30, 480, 510), 3013)
	ofIs(t, f, between(whole, 10, 30, 600, 630), 1004)
	for _, time := range []int{0, 389, 390, 480, 569, 570, 600, at(6, 8, 0), maxTime} {
		ofIs(t, f, lone(noExit, 10, time), 907)
		ofIs(t, f, lone(noEntry, 10, time), 907)
		ofIs(t, f, lone(bus, 9, time), 171)
		ofIs(t, f, free(lone(bus, 9, time)), 0)
	}
	ofIs(t, f, between(noExit, 10, 30, 480, 510), 907)
	ofIs(t, f, between(noEntry, 10, 30, 480, 510), 907)
	ofIs(t, f, between(bus, 10, 30, 480, 510), 171)
	ofIs(t, f, free(between(bus, 10, 30, 480, 510)), 0)
}

// P18.1: prices of 0 and of MaxFare, in each place, with each rate.
func TestPrices(t *testing.T) {
	for _, n := range []int{0, 1, 2, 3, maxFare - 1, maxFare} {
		for _, off := range someRates() {
			f := with(func(f *api.Tariff) {
				f.Stations, f.Spans = f.Stations[:1], f.Spans[:1]
				f.Off, f.Bus, f.Most, f.Spans[0].Single = off, n, n, n
			})
			ofIs(t, f, between(whole, 1, 1, 480, 510), n)
			ofIs(t, f, between(whole, 1, 1, 600, 630), slowScale(n, off))
			ofIs(t, f, lone(noExit, 1, 600), n)
			ofIs(t, f, lone(noEntry, 1, 600), n)
			ofIs(t, f, lone(bus, 9, 600), n)
			ofIs(t, f, free(lone(bus, 9, 600)), 0)
		}
	}
}

// P18.1: what a rate makes of a fare out of the peak: a half is rounded up, by the rate's exact value.
func TestRates(t *testing.T) {
	for _, x := range []struct {
		single int
		off    float64
		want   int
	}{
		{300, 0, 0}, {300, 1, 300}, {0, 1, 0}, {251, 0.5, 126}, {250, 0.5, 125}, {1, 0.5, 1}, {1, math.Nextafter(0.5, 0), 0}, {3, 0.1, 0}, {5, 0.1, 1},
		{100, 1.0 / 3, 33}, {200, 1.0 / 3, 67}, {101, 2.0 / 3, 67}, {10, 0.75, 8}, {15, 0.7, 10}, {maxFare, 1, maxFare}, {maxFare, 0, 0}, {maxFare, math.Nextafter(1, 0), maxFare}, {maxFare, 0.5, maxFare / 2}, {maxFare, math.SmallestNonzeroFloat64, 0},
	} {
		f := with(func(f *api.Tariff) {
			f.Stations, f.Spans = f.Stations[:1], f.Spans[:1]
			f.Spans[0].Single, f.Off = x.single, x.off
		})
		ofIs(t, f, between(whole, 1, 1, 600, 630), x.want)
		ofIs(t, f, between(whole, 1, 1, 480, 510), x.single)
	}
}

// P18.1: the first and the last minute of a band, and those beside them, on each day of the week.
func TestBandOnEachDay(t *testing.T) {
	f := ofTheChapter()
	for day := range 21 {
		peak := 300
		if day%7 > 4 {
			peak = 150
		}
		for time, want := range map[int]int{at(day, 6, 29): 150, at(day, 6, 30): peak, at(day, 6, 31): peak, at(day, 9, 28): peak, at(day, 9, 29): peak, at(day, 9, 30): 150, at(day, 18, 0): 150, at(day, 0, 0): 150} {
			ofIs(t, f, between(whole, 1, 2, time, time+30), want)
		}
	}
}

// P18.1: the Start counts alone, not the End, nor the minutes between.
func TestStartCounts(t *testing.T) {
	f := ofTheChapter()
	ofIs(t, f, between(whole, 1, 2, 389, 390), 150)
	ofIs(t, f, between(whole, 1, 2, 389, 480), 150)
	ofIs(t, f, between(whole, 1, 2, 389, 570), 150)
	ofIs(t, f, between(whole, 1, 2, 390, 390), 300)
	ofIs(t, f, between(whole, 1, 2, 569, 570), 300)
	ofIs(t, f, between(whole, 1, 2, 569, 689), 300)
	ofIs(t, f, between(whole, 1, 2, 480, maxTime), 300)
	ofIs(t, f, between(whole, 1, 2, 600, at(1, 8, 0)), 150)
	ofIs(t, f, between(whole, 1, 2, at(4, 8, 0), at(5, 8, 0)), 300)
	ofIs(t, f, between(whole, 1, 2, at(6, 8, 0), at(7, 8, 0)), 150)
}

// P18.1: several bands, such as touch one another, such as are at a day's edges; a night's band goes by travel days.
func TestSeveralBands(t *testing.T) {
	f := with(func(f *api.Tariff) {
		f.Peak = []api.Band{{From: 0, To: 60}, {From: 240, To: 300}, {From: 300, To: 301}, {From: 500, To: 501}, {From: 1439, To: 1440}}
	})
	for time, want := range map[int]int{
		at(0, 0, 0): 150, at(0, 0, 59): 150, at(0, 4, 29): 150, at(0, 4, 30): 300, at(0, 4, 59): 300, at(0, 5, 0): 300, at(0, 5, 1): 150,
		499: 150, 500: 300, 501: 150, 1438: 150, 1439: 300, 1440: 300, at(1, 0, 59): 300, at(1, 1, 0): 150, at(1, 3, 59): 150, at(1, 4, 0): 300,
		at(5, 0, 0): 300, at(5, 0, 59): 300, at(5, 4, 29): 300, at(5, 4, 30): 150, at(5, 23, 59): 150, at(6, 0, 30): 150, at(7, 0, 30): 150, at(7, 4, 30): 300,
	} {
		ofIs(t, f, between(whole, 1, 2, time, time), want)
	}
	f.Peak = []api.Band{{From: 0, To: 1440}}
	for day := range 7 {
		for hour := range 24 {
			want := 150
			if time := at(day, hour, 30); time >= 270 && time < at(5, 4, 30) {
				want = 300
			}
			ofIs(t, f, between(whole, 1, 2, at(day, hour, 30), at(day, hour, 31)), want)
		}
	}
}

// P18.1: without bands there is no peak.
func TestNoBand(t *testing.T) {
	for _, l := range [][]api.Band{nil, {}} {
		f := with(func(f *api.Tariff) { f.Peak = l })
		for _, time := range []int{0, 270, 390, 480, 569, 1439, at(4, 8, 0), at(6, 8, 0)} {
			ofIs(t, f, between(whole, 1, 2, time, time+1), 150)
		}
	}
}

// P18.1: from any station to any other one, there and back, also to itself and to another one in its zone.
func TestAllStations(t *testing.T) {
	f := zoned()
	for _, a := range f.Stations {
		for _, b := range f.Stations {
			low, high := min(a.Zone, b.Zone), max(a.Zone, b.Zone)
			single := 1000*(high-low+1) + 10*low + high
			ofIs(t, f, between(whole, a.Id, b.Id, 480, 510), single)
			ofIs(t, f, between(whole, a.Id, b.Id, 1000, 1000), single)
			ofIs(t, f, between(whole, a.Id, b.Id, 600, 630), (2*single+3)/6)
		}
	}
}

// P18.1: one zone alone; the lowest and the highest number of a station; stations whose zones fall as their numbers rise.
func TestFewStations(t *testing.T) {
	f := with(func(f *api.Tariff) {
		f.Stations = []api.Station{{Id: 1, Zone: 2}, {Id: 9, Zone: 1}, {Id: 65535, Zone: 1}}
	})
	for _, x := range [][3]int{{1, 1, 150}, {1, 9, 300}, {9, 1, 300}, {1, 65535, 300}, {65535, 1, 300}, {9, 65535, 200}, {65535, 9, 200}, {9, 9, 200}, {65535, 65535, 200}} {
		ofIs(t, f, between(whole, x[0], x[1], 480, 510), x[2])
		ofIs(t, f, between(whole, x[0], x[1], 600, 610), x[2]/2)
	}
	f.Spans = f.Spans[:1]
	f.Stations[0].Zone = 1
	for _, from := range f.Stations {
		for _, to := range f.Stations {
			ofIs(t, f, between(whole, from.Id, to.Id, 480, 510), 200)
		}
	}
}

// P18.1: a tariff that may not be, whatever the journey.
func TestWrongTariffs(t *testing.T) {
	for _, x := range wrongTariffs() {
		for _, j := range []api.Journey{between(whole, 1, 2, 480, 510), lone(noExit, 1, 480), lone(noEntry, 1, 480), lone(bus, 9, 480), free(lone(bus, 9, 480)), {}, lone(5, 1, 480), lone(whole, 1, -1), between(whole, 1, 2, 480, 479), free(lone(noExit, 1, 480)), between(whole, 1, 3, 480, 510)} {
			ofFails(t, x.tariff, j, x.want)
		}
	}
}

// P18.1: kinds, and what is none, ahead of all else that may be wrong with a journey.
func TestKinds(t *testing.T) {
	f := ofTheChapter()
	for _, kind := range notKinds() {
		for _, j := range []api.Journey{lone(kind, 1, 480), {Kind: kind}, free(lone(kind, 9, 480)), between(kind, 1, 2, 480, 510), between(kind, 3, 4, 480, 510), lone(kind, 1, -1), lone(kind, 1, maxTime+1), between(kind, 1, 2, 480, 479), free(between(kind, 3, 4, 480, 479))} {
			ofFails(t, f, j, api.ErrArg)
		}
	}
	for kind, want := range map[int]int{1: 200, 2: 900, 3: 900, 4: 175} {
		ofIs(t, f, lone(kind, 1, 480), want)
	}
	ofFails(t, f, api.Journey{}, api.ErrArg)
}

// P18.1: the first and the last time, and those beside them, as Start and as End, of each kind.
func TestTimes(t *testing.T) {
	f := ofTheChapter()
	for kind, want := range map[int]int{whole: 100, noExit: 900, noEntry: 900, bus: 175} {
		for _, time := range []int{0, 1, maxTime - 1, maxTime} {
			ofIs(t, f, lone(kind, 1, time), want)
			ofIs(t, f, between(kind, 1, 1, time, maxTime), want)
			ofIs(t, f, between(kind, 1, 1, 0, time), want)
		}
		for _, time := range notTimes() {
			ofFails(t, f, lone(kind, 1, time), api.ErrTime)
			ofFails(t, f, between(kind, 1, 1, time, 480), api.ErrTime)
			ofFails(t, f, between(kind, 1, 1, time, maxTime), api.ErrTime)
			ofFails(t, f, between(kind, 1, 1, 480, time), api.ErrTime)
			ofFails(t, f, between(kind, 1, 1, 0, time), api.ErrTime)
		}
	}
}

// P18.1: an End that is the Start, one minute behind it, one ahead of it.
func TestEnds(t *testing.T) {
	f := ofTheChapter()
	for kind, want := range map[int]int{whole: 300, noExit: 900, noEntry: 900, bus: 175} {
		for _, start := range []int{390, 480, 569} {
			ofIs(t, f, between(kind, 1, 2, start, start), want)
			ofIs(t, f, between(kind, 1, 2, start, start+1), want)
			ofFails(t, f, between(kind, 1, 2, start, start-1), api.ErrTime)
			ofFails(t, f, between(kind, 1, 2, start, 0), api.ErrTime)
		}
		ofFails(t, f, between(kind, 1, 2, 1, 0), api.ErrTime)
		ofFails(t, f, between(kind, 1, 2, maxTime, maxTime-1), api.ErrTime)
		ofFails(t, f, between(kind, 1, 2, maxTime, 0), api.ErrTime)
		ofFails(t, f, between(kind, 1, 2, math.MaxInt, math.MinInt), api.ErrTime)
	}
}

// P18.1: only a ride may be Free; a time that is wrong comes first.
func TestFree(t *testing.T) {
	f := ofTheChapter()
	ofIs(t, f, free(lone(bus, 1, 480)), 0)
	for _, kind := range []int{whole, noExit, noEntry} {
		ofFails(t, f, free(lone(kind, 1, 480)), api.ErrArg)
		ofFails(t, f, free(between(kind, 1, 2, 480, 510)), api.ErrArg)
		ofFails(t, f, free(between(kind, 3, 4, 480, 510)), api.ErrArg)
	}
	for _, kind := range []int{whole, noExit, noEntry, bus} {
		ofFails(t, f, free(lone(kind, 1, -1)), api.ErrTime)
		ofFails(t, f, free(lone(kind, 1, maxTime+1)), api.ErrTime)
		ofFails(t, f, free(between(kind, 1, 2, 480, 479)), api.ErrTime)
	}
}

// P18.1: a whole journey of which the tariff has no station From, none To, neither; the times come first. Other kinds may be anywhere.
func TestStations(t *testing.T) {
	f := ofTheChapter()
	for _, place := range []int{0, 3, -1, -2, 7, 65535, 65536, 65537, 1<<32 + 1, 1<<32 + 2, math.MinInt, math.MinInt + 1, math.MaxInt} {
		for _, x := range [][2]int{{place, 1}, {place, 2}, {1, place}, {2, place}, {place, place}, {place, 3}, {3, place}} {
			ofFails(t, f, between(whole, x[0], x[1], 480, 510), api.ErrArg)
			ofFails(t, f, between(whole, x[0], x[1], 600, 630), api.ErrArg)
			ofFails(t, f, between(whole, x[0], x[1], -1, 510), api.ErrTime)
			ofFails(t, f, between(whole, x[0], x[1], 480, maxTime+1), api.ErrTime)
			ofFails(t, f, between(whole, x[0], x[1], 480, 479), api.ErrTime)
			ofIs(t, f, between(noExit, x[0], x[1], 480, 510), 900)
			ofIs(t, f, between(noEntry, x[0], x[1], 480, 510), 900)
			ofIs(t, f, between(bus, x[0], x[1], 480, 510), 175)
			ofIs(t, f, free(between(bus, x[0], x[1], 480, 510)), 0)
		}
	}
	for _, l := range [][]api.Station{nil, {}} {
		none := with(func(f *api.Tariff) { f.Stations, f.Spans = l, f.Spans[:1] })
		ofFails(t, none, lone(whole, 1, 480), api.ErrArg)
		ofFails(t, none, lone(whole, 0, 480), api.ErrArg)
		ofIs(t, none, lone(noExit, 1, 480), 900)
		ofIs(t, none, lone(noEntry, 0, 480), 900)
		ofIs(t, none, lone(bus, 1, 480), 175)
	}
}

// P18.1: the stations that there are, as many as there may be: the first and the last of them, and those beside.
func TestManyStations(t *testing.T) {
	f := zoned()
	f.Stations = nil
	for i := range 200 {
		f.Stations = append(f.Stations, api.Station{Id: 1000 + 2*i, Zone: 1 + i%9})
	}
	for i := range 200 {
		zone := 1 + i%9
		ofIs(t, f, between(whole, 1000, 1000+2*i, 480, 510), 1000*zone+10+zone)
		ofIs(t, f, between(whole, 1000+2*i, 1000, 480, 510), 1000*zone+10+zone)
		ofFails(t, f, between(whole, 1000, 1001+2*i, 480, 510), api.ErrArg)
		ofFails(t, f, between(whole, 999+2*i, 1000, 480, 510), api.ErrArg)
	}
}

// P18.1: any journey, by any tariff that may be.
func TestAnyJourney(t *testing.T) {
	rnd := rand.New(rand.NewSource(181))
	errors := map[api.Errno]int{}
	for range 3000 {
		f := someTariff(rnd)
		for range 20 {
			j := someJourney(rnd, f)
			for rnd.Intn(4) == 0 {
				j = spoilt(rnd, j)
			}
			_, e := of(t, f, j)
			errors[e]++
		}
	}
	if errors[api.OK] < 10000 || errors[api.ErrArg] < 2000 || errors[api.ErrTime] < 2000 {
		t.Error("only so many:", errors)
	}
}
