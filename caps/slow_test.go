package caps_test

import (
	"math/big"

	"farebox/api"
	"farebox/tariff"
)

// This file tells the chapter slowly, word by word, with the words of chapters 6 and 7 that it needs.

// slowIsOn is chapter 6's: is that a time, from 1440 d + 270 on, ahead of the next day's.
func slowIsOn(day, time int) bool {
	if time < 0 || time > 2147483648 {
		return false
	}
	d, t := big.NewInt(int64(day)), big.NewInt(int64(time-270))
	first := new(big.Int).Mul(d, big.NewInt(1440))
	next := new(big.Int).Add(first, big.NewInt(1440))
	return t.Cmp(first) >= 0 && t.Cmp(next) < 0
}

// slowWeekOf is chapter 6's: the week that has the day, 0 beyond 2^40.
func slowWeekOf(day int) int {
	if day < -1<<40 || day > 1<<40 {
		return 0
	}
	week := day / 7
	for 7*week > day {
		week--
	}
	return week
}

// slowZone is the zone of a station, 0 if there is none.
func slowZone(f api.Tariff, id int) int {
	for _, s := range f.Stations {
		if s.Id == id {
			return s.Zone
		}
	}
	return 0
}

// slowSpan are the spans from a zone to another one: one, or none.
func slowSpan(f api.Tariff, low, high int) []api.Span {
	for _, s := range f.Spans {
		if s.From == low && s.To == high {
			return []api.Span{s}
		}
	}
	return nil
}

// slowJourneyError is what P19.1 says against a journey.
func slowJourneyError(f api.Tariff, day int, p api.Priced) api.Errno {
	kind := p.Journey.Kind
	if kind != 1 && kind != 2 && kind != 3 && kind != 4 {
		return 1
	}
	if p.Fare < 0 || p.Fare > 1048576 {
		return 50
	}
	if !slowIsOn(day, p.Journey.Start) {
		return 60
	}
	if kind == 1 && slowZone(f, p.Journey.From) == 0 {
		return 1
	}
	if kind == 1 && slowZone(f, p.Journey.To) == 0 {
		return 1
	}
	return 0
}

// slowCost is what journeys of some kinds cost together.
func slowCost(l []api.Priced, kinds ...int) int {
	n := 0
	for _, p := range l {
		for _, kind := range kinds {
			if p.Journey.Kind == kind {
				n += p.Fare
			}
		}
	}
	return n
}

// slowEnds are the lowest and the highest of zones, 0 both, if there is none.
func slowEnds(zones []int) (int, int) {
	for low := 1; low <= 9; low++ {
		for high := 9; high >= low; high-- {
			isLow, isHigh := false, false
			for _, z := range zones {
				isLow, isHigh = isLow || z == low, isHigh || z == high
			}
			if isLow && isHigh {
				return low, high
			}
		}
	}
	return 0, 0
}

// slowDay is P19.1.
func slowDay(f api.Tariff, day int, l []api.Priced) (api.Day, api.Errno) {
	if e := tariff.Right(f); e != 0 {
		return api.Day{}, e
	}
	if len(l) > 2000 {
		return api.Day{}, 2
	}
	for _, p := range l {
		if e := slowJourneyError(f, day, p); e != 0 {
			return api.Day{}, e
		}
	}
	var zones []int
	for _, p := range l {
		if p.Journey.Kind == 1 {
			zones = append(zones, slowZone(f, p.Journey.From), slowZone(f, p.Journey.To))
		}
	}
	rail, rides, most := slowCost(l, 1), slowCost(l, 4), slowCost(l, 2, 3)
	if rides > f.BusDaily {
		rides = f.BusDaily
	}
	if len(zones) == 0 {
		return api.Day{Day: day, Bus: rides, Capped: rides, Most: most}, 0
	}
	low, high := slowEnds(zones)
	held := rail + rides
	if daily := slowSpan(f, low, high)[0].Daily; held > daily {
		held = daily
	}
	if rides > held {
		held = rides
	}
	return api.Day{Day: day, Rail: rail, Bus: rides, Capped: held, Most: most, Low: low, High: high}, 0
}

// slowDayError is what P19.2 says against a day, behind the one ahead of it, if there is one.
func slowDayError(f api.Tariff, ahead []api.Day, d api.Day) api.Errno {
	if len(ahead) > 0 {
		a := ahead[len(ahead)-1].Day
		if d.Day <= a || slowWeekOf(d.Day) != slowWeekOf(a) {
			return 60
		}
	}
	for _, n := range []int{d.Rail, d.Bus, d.Capped, d.Most} {
		if n < 0 || n > 1099511627776 {
			return 50
		}
	}
	if d.Capped < d.Bus {
		return 50
	}
	if d.Low == 0 && d.High == 0 {
		return 0
	}
	if d.Low < 1 || d.High < 1 || d.Low > d.High || len(slowSpan(f, d.Low, d.High)) == 0 {
		return 1
	}
	return 0
}

// slowWeek is P19.2.
func slowWeek(f api.Tariff, l []api.Day) (int, api.Errno) {
	if e := tariff.Right(f); e != 0 {
		return 0, e
	}
	if len(l) > 7 {
		return 0, 2
	}
	for i, d := range l {
		if e := slowDayError(f, l[:i], d); e != 0 {
			return 0, e
		}
	}
	b, r, most := 0, 0, 0
	var zones []int
	for _, d := range l {
		b, r, most = b+d.Bus, r+d.Capped-d.Bus, most+d.Most
		if d.Low != 0 {
			zones = append(zones, d.Low, d.High)
		}
	}
	if b > f.BusWeekly {
		b = f.BusWeekly
	}
	if len(zones) == 0 {
		return b + r + most, 0
	}
	low, high := slowEnds(zones)
	held := b + r
	if weekly := slowSpan(f, low, high)[0].Weekly; held > weekly {
		held = weekly
	}
	if b > held {
		held = b
	}
	return held + most, 0
}
