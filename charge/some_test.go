package charge_test

import (
	"math/rand"
	"slices"

	"farebox/api"
)

// withoutStations is the tariff of the whole without any station: there is one span even so.
func withoutStations() api.Tariff {
	return with(func(f *api.Tariff) { f.Stations, f.Spans = nil, f.Spans[:1] })
}

// oneOf is any of them.
func oneOf[T any](rnd *rand.Rand, l []T) T { return l[rnd.Intn(len(l))] }

// somePrice is one of any size, or at an edge.
func somePrice(rnd *rand.Rand) int {
	if rnd.Intn(10) == 0 {
		return oneOf(rnd, []int{0, 1, maxFare - 1, maxFare})
	}
	return rnd.Intn(maxFare+1) >> rnd.Intn(20)
}

// someSums are so many prices, of which a span's is the sum of those of its zones: so whatever lies within costs no more.
func someSums(rnd *rand.Rand, many, most int) func(from, to int) int {
	l := make([]int, many)
	for i := range l {
		l[i] = rnd.Intn(most + 1)
	}
	return func(from, to int) int {
		n := 0
		for _, x := range l[from : to+1] {
			n += x
		}
		return min(n, maxFare)
	}
}

// someSpans are those of so many zones, the caps a few times the fares.
func someSpans(rnd *rand.Rand, zones int) []api.Span {
	scale := 1 + somePrice(rnd)>>3
	single, day, week := someSums(rnd, zones, scale), someSums(rnd, zones, 4*scale), someSums(rnd, zones, 12*scale)
	var l []api.Span
	for from := range zones {
		for to := from; to < zones; to++ {
			l = append(l, api.Span{From: from + 1, To: to + 1, Single: single(from, to), Daily: day(from, to), Weekly: week(from, to)})
		}
	}
	return l
}

// someTariff is one that may be.
func someTariff(rnd *rand.Rand) api.Tariff {
	zones := oneOf(rnd, []int{1, 2, 2, 3, 3, 4, 9})
	f := api.Tariff{Spans: someSpans(rnd, zones), Peak: []api.Band{{From: 390, To: 570}, {From: 960, To: 1140}}[:rnd.Intn(3)], Off: rnd.Float64()}
	for id := 1; id <= 10; id++ {
		if rnd.Intn(5) > 0 {
			f.Stations = append(f.Stations, api.Station{Id: id, Zone: 1 + rnd.Intn(zones), Group: oneOf(rnd, []int{0, 0, 1, 1, 2})})
		}
	}
	f.Stations = append(f.Stations, api.Station{Id: 60000, Zone: zones, Group: 2})
	minutes := func(least int) int {
		return oneOf(rnd, []int{least, 10, 30, 60, 120, 1440, least + rnd.Intn(1441-least)})
	}
	f.Bus = somePrice(rnd) >> 4
	f.BusDaily, f.BusWeekly = f.Bus*(1+rnd.Intn(4)), f.Bus*(1+rnd.Intn(12))
	if rnd.Intn(4) == 0 {
		f.BusDaily, f.BusWeekly = somePrice(rnd), somePrice(rnd)
	}
	f.Most, f.Threshold = somePrice(rnd), somePrice(rnd)
	f.Hopper, f.Longest, f.Change, f.Passback, f.Delay = minutes(0), minutes(1), minutes(0)&63, minutes(0), minutes(0)&63
	return f
}

// someWay is where taps have come to, as they are made one behind another.
type someWay struct {
	rnd             *rand.Rand
	taps            []api.Tap
	time            int
	device, counter int
	inside          bool
}

// next is one tap more, so many minutes later: mostly an entry and an exit by turns.
func (w *someWay) next(gap int) {
	x := api.Tap{Token: token, Kind: 1 + w.rnd.Intn(3), Place: 1 + w.rnd.Intn(11)}
	if w.rnd.Intn(5) > 0 {
		x.Kind = in
		if w.inside {
			x.Kind = out
		}
		w.inside = !w.inside
	}
	if x.Kind != bus && w.rnd.Intn(20) == 0 {
		x.Place = 60000 + w.rnd.Intn(2)
	}
	if gap > 0 && w.rnd.Intn(3) == 0 {
		w.device, w.counter = 1+w.rnd.Intn(9), 1+w.rnd.Intn(9)
	}
	w.time += gap
	w.counter += 1 + w.rnd.Intn(3)
	x.Device, x.Counter, x.Time = w.device, w.counter, w.time
	w.taps = append(w.taps, x)
}

// someGap is how far behind a tap the next one is: minutes, often, now and then hours, days or weeks.
func (w *someWay) someGap(f api.Tariff) int {
	switch w.rnd.Intn(16) {
	case 0:
		return 0
	case 1:
		return oneOf(w.rnd, []int{f.Change, f.Longest, f.Hopper, f.Delay}) + w.rnd.Intn(2)
	case 2, 3:
		return w.rnd.Intn(400)
	case 4, 5:
		return w.toDayStart() + w.rnd.Intn(3)*w.rnd.Intn(700)
	case 6:
		return 1440 + w.rnd.Intn(1440)
	case 7:
		if w.rnd.Intn(3) == 0 {
			return 10080 * w.rnd.Intn(4)
		}
	}
	return w.rnd.Intn(40)
}

// toDayStart is how far off the last minute of the travel day is.
func (w *someWay) toDayStart() int { return 1439 - (w.time+1440-270)%1440 }

// someTaps are up to so many that may be, by a tariff.
func someTaps(rnd *rand.Rand, f api.Tariff, most int) []api.Tap {
	w := someWay{rnd: rnd, device: 1 + rnd.Intn(9), counter: rnd.Intn(9)}
	w.time = oneOf(rnd, []int{0, 269, 270, 480, 1440*6 + 480, 1440*7 + 200, rnd.Intn(20000), rnd.Intn(maxTime)})
	for range rnd.Intn(most + 1) {
		gap := w.someGap(f)
		if w.time+gap > maxTime {
			gap = 0
		}
		w.next(gap)
	}
	return w.taps
}

// somePlace is that of one of the taps, or of any.
func somePlace(rnd *rand.Rand, its []api.Tap) int {
	if len(its) > 0 && rnd.Intn(5) > 0 {
		return oneOf(rnd, its).Place
	}
	return 1 + rnd.Intn(10)
}

// someOutage is one that may be, about one of the taps; it lasts minutes, days or weeks.
func someOutage(rnd *rand.Rand, its []api.Tap) api.Outage {
	from := rnd.Intn(20000)
	if len(its) > 0 {
		from = oneOf(rnd, its).Time
	}
	from = min(max(0, from-rnd.Intn(60)), maxTime-1)
	lasts := 1 + oneOf(rnd, []int{0, rnd.Intn(90), rnd.Intn(90), rnd.Intn(3000), rnd.Intn(30000)})
	return api.Outage{Station: somePlace(rnd, its), From: from, To: min(maxTime, from+lasts)}
}

// someOutages are up to so many of them.
func someOutages(rnd *rand.Rand, its []api.Tap, most int) []api.Outage {
	l := make([]api.Outage, rnd.Intn(most+1))
	for i := range l {
		l[i] = someOutage(rnd, its)
	}
	return l
}

// renamed are the same taps of another token, other devices and counters, in the same order.
func renamed(rnd *rand.Rand, l []api.Tap) []api.Tap {
	l = slices.Clone(l)
	device, counter := 65535, 1<<32-1
	for i := len(l) - 1; i >= 0; i-- {
		if i < len(l)-1 && l[i].Time != l[i+1].Time {
			device, counter = 65535-rnd.Intn(1000), 1<<32-1-rnd.Intn(1000)
		}
		l[i].Token, l[i].Device, l[i].Counter = "\x00\xffother!", device, counter
		counter--
		if rnd.Intn(3) == 0 {
			device, counter = device-1, 1<<32-1-rnd.Intn(1000)
		}
	}
	return l
}
