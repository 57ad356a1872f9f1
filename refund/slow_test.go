package refund_test

import (
	"math/big"

	"farebox/api"
	"farebox/tariff"
)

// This file tells the chapter slowly, word by word, with the words of chapters 6 and 8 that it needs.

func slowIsTime(n int) bool { return !(n < 0) && !(n > 2147483648) }

// slowMayBe is chapter 8's of outages.
func slowMayBe(l []api.Outage) bool {
	if len(l) > 100 {
		return false
	}
	for _, o := range l {
		if o.Station < 1 || o.Station > 65535 {
			return false
		}
		if !slowIsTime(o.From) || !slowIsTime(o.To) {
			return false
		}
		if o.From >= o.To {
			return false
		}
	}
	return true
}

// slowMinutes is by how many minutes a number stands behind another one, in numbers that have no end.
func slowMinutes(ahead, behind int) *big.Int {
	return new(big.Int).Sub(big.NewInt(int64(behind)), big.NewInt(int64(ahead)))
}

// slowHolds is P20.2 of one outage.
func slowHolds(f api.Tariff, o api.Outage, j api.Journey) bool {
	if j.Kind == 2 || j.Kind == 3 {
		if o.Station != j.From {
			return false
		}
		if j.Start < o.From {
			return false
		}
		return !(j.Start >= o.To)
	}
	if j.Kind != 1 {
		return false
	}
	if !slowIsTime(j.Start) || !slowIsTime(j.End) {
		return false
	}
	if slowMinutes(j.Start, j.End).Cmp(big.NewInt(int64(f.Delay))) < 0 {
		return false
	}
	if o.Station != j.From && o.Station != j.To {
		return false
	}
	if o.From > j.End {
		return false
	}
	return !(o.To <= j.Start)
}

// slowHeld is P20.2.
func slowHeld(f api.Tariff, l []api.Outage, j api.Journey) bool {
	many := 0
	for _, o := range l {
		if slowHolds(f, o, j) {
			many++
		}
	}
	return many > 0
}

// slowApply is P20.3.
func slowApply(f api.Tariff, l []api.Outage, p []api.Priced) ([]api.Priced, api.Errno) {
	if e := tariff.Right(f); e != 0 {
		return nil, e
	}
	if !slowMayBe(l) {
		return nil, 80
	}
	if len(p) > 2000 {
		return nil, 2
	}
	var out []api.Priced
	for _, x := range p {
		if slowHeld(f, l, x.Journey) {
			out = append(out, api.Priced{Journey: x.Journey, Fare: 0})
		} else {
			out = append(out, x)
		}
	}
	return out, 0
}
