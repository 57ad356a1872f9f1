package charge_test

import (
	"slices"

	"farebox/api"
	"farebox/caps"
	"farebox/fare"
	"farebox/journey"
	"farebox/refund"
	"farebox/tariff"
)

// This file tells the chapter slowly, word by word, by the calls that P21.1 names; which travel day and which week a tap is of it reckons by itself.

// slowDayNumber is chapter 6's: the travel day that has the time, 1440 minutes each, the first Monday's from 270 on.
func slowDayNumber(time int) int {
	if time < 270 {
		return -1
	}
	return (time - 270) / 1440
}

// slowWeekNumber is chapter 6's: the week that has the day. Times have no day ahead of -1, a Sunday.
func slowWeekNumber(day int) int {
	if day < 0 {
		return -1
	}
	return day / 7
}

// slowWeeks are the weeks that have a tap, each once, rising.
func slowWeeks(l []api.Tap) []int {
	is := map[int]int{}
	for _, x := range l {
		is[slowWeekNumber(slowDayNumber(x.Time))]++
	}
	var weeks []int
	for week := range is {
		weeks = append(weeks, week)
	}
	slices.Sort(weeks)
	return weeks
}

// slowTapsOf are those of one travel day.
func slowTapsOf(l []api.Tap, day int) []api.Tap {
	var out []api.Tap
	for _, x := range l {
		if slowDayNumber(x.Time) == day {
			out = append(out, x)
		}
	}
	return out
}

// slowDay is what P21.1 says of a day's taps.
func slowDay(f api.Tariff, l []api.Outage, day int, its []api.Tap) (api.Day, api.Errno) {
	made, e := journey.Build(f, its)
	if e != 0 {
		return api.Day{}, e
	}
	priced, e := fare.All(f, made)
	if e != 0 {
		return api.Day{}, e
	}
	priced, e = refund.Apply(f, l, priced)
	if e != 0 {
		return api.Day{}, e
	}
	return caps.Day(f, day, priced)
}

// slowError is the first of P21.1's errors.
func slowError(f api.Tariff, l []api.Outage, its []api.Tap) api.Errno {
	if e := tariff.Right(f); e != 0 {
		return e
	}
	if e := refund.Right(l); e != 0 {
		return e
	}
	return journey.Right(its)
}

// slowBills is P21.1. Behind the first errors there are none: -1 stands for one that comes about even so.
func slowBills(f api.Tariff, l []api.Outage, its []api.Tap) ([]api.Bill, api.Errno) {
	if e := slowError(f, l, its); e != 0 {
		return nil, e
	}
	var out []api.Bill
	for _, week := range slowWeeks(its) {
		var days []api.Day
		for day := 7 * week; day <= 7*week+6; day++ {
			of := slowTapsOf(its, day)
			if len(of) == 0 {
				continue
			}
			d, e := slowDay(f, l, day, of)
			if e != 0 {
				return nil, -1
			}
			days = append(days, d)
		}
		n, e := caps.Week(f, days)
		if e != 0 {
			return nil, -1
		}
		out = append(out, api.Bill{Week: week, Amount: n})
	}
	return out, 0
}

// slowCharge is P21.2 of the bills that there are; of none of them it is 0, also where an error says so.
func slowCharge(all []api.Bill) int {
	n := 0
	for _, b := range all {
		n += b.Amount
	}
	return n
}
