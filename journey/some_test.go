package journey_test

import (
	"math/rand"
	"slices"

	"farebox/api"
)

// someTariff is one that may be: few stations in few groups, minutes at their edges or any.
func someTariff(rnd *rand.Rand) api.Tariff {
	f := ofTheChapter()
	f.Stations = nil
	for id := 1; id <= 8; id++ {
		if rnd.Intn(4) > 0 {
			f.Stations = append(f.Stations, api.Station{Id: id, Zone: 1 + id%2, Group: []int{0, 1, 1, 1, 2}[rnd.Intn(5)]})
		}
	}
	f.Stations = append(f.Stations, api.Station{Id: 60000, Zone: 2, Group: 2})
	minutes := func(least int) int {
		return []int{least, 1, 2, 10, 60, 120, 1439, 1440, least + rnd.Intn(1441-least), least + rnd.Intn(40)}[rnd.Intn(10)]
	}
	f.Longest, f.Change, f.Hopper = minutes(1), minutes(0), minutes(0)
	return f
}

// someGap is how far behind a tap the next one is: often at an edge of the tariff's minutes.
func someGap(rnd *rand.Rand, f api.Tariff) int {
	switch rnd.Intn(12) {
	case 0:
		return 0
	case 1:
		return f.Change + rnd.Intn(3) - min(1, f.Change)
	case 2:
		return f.Longest + rnd.Intn(3) - 1
	case 3:
		return f.Hopper + rnd.Intn(3) - min(1, f.Hopper)
	case 4:
		return rnd.Intn(100)
	}
	return rnd.Intn(6)
}

// someTap is one that may be at any time: mostly an entry and an exit by turns.
func someTap(rnd *rand.Rand, turn *bool) api.Tap {
	x := api.Tap{Kind: 1 + rnd.Intn(3), Place: 1 + rnd.Intn(9)}
	if rnd.Intn(5) > 0 {
		x.Kind = in
		if *turn {
			x.Kind = out
		}
		*turn = !*turn
	}
	if x.Kind != bus && rnd.Intn(20) == 0 {
		x.Place = 60000 + rnd.Intn(2)
	}
	return x
}

// someTaps are up to so many, rising from a time on, ahead of another one.
func someTaps(rnd *rand.Rand, f api.Tariff, many, begin, end int) []api.Tap {
	var l []api.Tap
	turn := false
	device, counter := 1+rnd.Intn(9), 1+rnd.Intn(9)
	for time := begin; len(l) < many; {
		gap := someGap(rnd, f)
		if time+gap >= end {
			gap = rnd.Intn(3)
		}
		if time += gap; time >= end || time > maxTime {
			break
		}
		x := someTap(rnd, &turn)
		if gap > 0 && rnd.Intn(3) == 0 {
			device, counter = 1+rnd.Intn(9), 1+rnd.Intn(9)
		}
		counter += 1 + rnd.Intn(2)
		x.Device, x.Counter, x.Token, x.Time = device, counter, token, time
		l = append(l, x)
	}
	return l
}

// someDay are taps of one travel day.
func someDay(rnd *rand.Rand, f api.Tariff) []api.Tap {
	day := []int{-1, 0, 3, 6, 20, 1000, 1491306}[rnd.Intn(7)]
	begin, end := max(0, 1440*day+270), 1440*(day+1)+270
	return someTaps(rnd, f, rnd.Intn(40), begin+rnd.Intn(end-begin)*rnd.Intn(2), end)
}

// someDays are taps of many travel days, some of them without any, some with a tap at their edges.
func someDays(rnd *rand.Rand) []api.Tap {
	f := someTariff(rnd)
	var l []api.Tap
	for day := -1 + rnd.Intn(3); day < 30 && len(l) < 1500; day += 1 + rnd.Intn(2)*rnd.Intn(4) {
		begin, end := max(0, 1440*day+270), 1440*(day+1)+270
		if rnd.Intn(3) == 0 {
			l = append(l, api.Tap{Device: 1, Counter: 1, Token: token, Kind: in, Place: 1, Time: begin})
		}
		l = append(l, someTaps(rnd, f, rnd.Intn(30), begin+1, end-1)...)
		if rnd.Intn(3) == 0 {
			l = append(l, api.Tap{Device: 9, Counter: 99, Token: token, Kind: out, Place: 2, Time: end - 1})
		}
	}
	return l
}

// renamed are the same taps of another token, device and counter, in the same order.
func renamed(rnd *rand.Rand, l []api.Tap) []api.Tap {
	l = slices.Clone(l)
	device, counter := 65535, 1<<32-1
	for i := len(l) - 1; i >= 0; i-- {
		if i < len(l)-1 && l[i].Time != l[i+1].Time {
			device, counter = 65535-rnd.Intn(1000), 1<<32-1-rnd.Intn(1000)
		}
		l[i].Token, l[i].Device, l[i].Counter = "\x00\xffother!", device, counter
		counter--
		if rnd.Intn(3) == 0 {
			device, counter = device-1, 1<<32-1-rnd.Intn(1000)
		}
	}
	return l
}
