package fare_test

import (
	"math/big"

	"farebox/api"
	"farebox/tariff"
)

// This file tells the chapter slowly, word by word, with the words of chapters 5 to 7 that it needs.

func slowIsTime(n int) bool { return !(n < 0) && !(n > 2147483648) }

// slowPeak is chapter 6's: a travel day from Monday to Friday, the minutes since midnight in a band.
func slowPeak(l []api.Band, time int) bool {
	begin, weekday := 270-1440, 6
	for begin+1440 <= time {
		days := max(1, (time-begin)/1440-1)
		begin += 1440 * days
		weekday = (weekday + days) % 7
	}
	in := false
	for _, b := range l {
		in = in || time%1440 >= b.From && time%1440 < b.To
	}
	return in && weekday <= 4
}

// slowScale is chapter 5's, in numbers that have no end.
func slowScale(n int, f float64) int {
	x := new(big.Rat).SetFloat64(f)
	x.Mul(x, new(big.Rat).SetInt64(int64(n)))
	x.Add(x, big.NewRat(1, 2))
	return int(new(big.Int).Div(x.Num(), x.Denom()).Int64())
}

// slowZone is the zone of a station, 0 if there is none.
func slowZone(f api.Tariff, id int) int {
	for _, s := range f.Stations {
		if s.Id == id {
			return s.Zone
		}
	}
	return 0
}

func slowSingle(f api.Tariff, a, b int) int {
	for _, s := range f.Spans {
		if s.From == a && s.To == b || s.From == b && s.To == a {
			return s.Single
		}
	}
	panic("no span")
}

// slowError is what P18.1 says against a journey.
func slowError(f api.Tariff, j api.Journey) api.Errno {
	if j.Kind != 1 && j.Kind != 2 && j.Kind != 3 && j.Kind != 4 {
		return 1
	}
	if !slowIsTime(j.Start) || !slowIsTime(j.End) {
		return 60
	}
	if j.End < j.Start {
		return 60
	}
	if j.Free && j.Kind != 4 {
		return 1
	}
	if j.Kind == 1 && slowZone(f, j.From) == 0 {
		return 1
	}
	if j.Kind == 1 && slowZone(f, j.To) == 0 {
		return 1
	}
	return 0
}

// slowFare is what P18.1 says of a journey that may be.
func slowFare(f api.Tariff, j api.Journey) int {
	if j.Kind == 4 && j.Free {
		return 0
	}
	if j.Kind == 4 {
		return f.Bus
	}
	if j.Kind == 2 || j.Kind == 3 {
		return f.Most
	}
	n := slowSingle(f, slowZone(f, j.From), slowZone(f, j.To))
	if slowPeak(f.Peak, j.Start) {
		return n
	}
	return slowScale(n, f.Off)
}

func slowOf(f api.Tariff, j api.Journey) (int, api.Errno) {
	if e := tariff.Right(f); e != 0 {
		return 0, e
	}
	if e := slowError(f, j); e != 0 {
		return 0, e
	}
	return slowFare(f, j), 0
}

// slowAll is P18.2.
func slowAll(f api.Tariff, l []api.Journey) ([]api.Priced, api.Errno) {
	if e := tariff.Right(f); e != 0 {
		return nil, e
	}
	if len(l) > 2000 {
		return nil, 2
	}
	for _, j := range l {
		if e := slowError(f, j); e != 0 {
			return nil, e
		}
	}
	var out []api.Priced
	for _, j := range l {
		out = append(out, api.Priced{Journey: j, Fare: slowFare(f, j)})
	}
	return out, 0
}
