package charge_test

import (
	"slices"
	"testing"

	"farebox/api"
)

// P21.1, P21.2: the chapter's examples.
func TestChapter(t *testing.T) {
	f := ofTheChapter()
	billsAre(t, f, "", "")
	billsAre(t, f, "0 Mon 08:00 in 1, 0 Mon 08:30 out 2", "0 300")
	billsAre(t, f, daily(0, mondayToFriday, "08:00 in 1, 08:30 out 2, 08:40 bus 9, 10:20 bus 9"), "0 2800")
	billsAre(t, f, "0 Sun 23:00 in 1, 1 Mon 00:30 out 2", "0 150")
	disturbedAre(t, f, "2 from 0 Mon 08:00 to 0 Mon 08:01", "0 Mon 08:00 in 2", "0 0")
	billsAre(t, f, "0 Mon 08:00 in 2", "0 900")
}

// P21.1, P21.2: the document's examples of the whole.
func TestWhole(t *testing.T) {
	f := ofTheWhole()
	billsAre(t, f, "0 Mon 08:00 in 1, 0 Mon 08:30 out 2", "0 300")
	billsAre(t, f, "0 Mon 10:00 in 1, 0 Mon 10:30 out 2", "0 150")
	billsAre(t, f, "0 Sun 08:00 in 1, 0 Sun 08:30 out 2", "0 150")
	billsAre(t, f, "0 Mon 08:00 in 1", "0 900")
	disturbedAre(t, f, "1 from 0 Mon 08:00 to 0 Mon 08:01", "0 Mon 08:00 in 1", "0 0")
	billsAre(t, f, "0 Mon 08:00 in 1, 0 Mon 08:20 out 2, 0 Mon 08:30 in 2, 0 Mon 08:50 out 1, 0 Mon 09:00 in 1, 0 Mon 09:25 out 2", "0 700")
	billsAre(t, f, "0 Mon 08:00 bus 9, 0 Mon 09:01 bus 9, 0 Mon 10:02 bus 9, 0 Mon 11:03 bus 9, 0 Mon 12:04 bus 9", "0 400")
	billsAre(t, f, "0 Mon 08:00 bus 9, 0 Mon 09:00 bus 9", "0 175")
	billsAre(t, f, daily(0, mondayToFriday, "08:00 in 1, 08:30 out 2, 12:00 bus 9, 13:40 bus 9"), "0 2800")
	billsAre(t, f, "0 Sun 23:00 in 1, 1 Mon 00:30 out 2", "0 150")
	billsAre(t, f, "0 Mon 08:00 in 1, 0 Tue 08:00 out 2", "0 1800")
}

// P21.1, P21.2, W5: without taps nothing is owed, whatever the tariff and the outages.
func TestNoTaps(t *testing.T) {
	for _, f := range []api.Tariff{ofTheChapter(), ofTheWhole(), withoutStations()} {
		for _, l := range [][]api.Outage{nil, {}, outages("2 from 0 Mon 08:00 to 0 Mon 08:01"), manyOutages(100)} {
			areBills(t, f, l, nil, nil)
			areBills(t, f, l, []api.Tap{}, nil)
		}
	}
}

// P21.1: one tap of each kind, in the peak and out of it, at a known place and at an unknown one.
func TestOneTap(t *testing.T) {
	f := ofTheWhole()
	for _, time := range []string{"0 Mon 08:00", "0 Mon 12:00", "0 Tue 04:29", "0 Sun 04:30", "0 Sun 23:59"} {
		billsAre(t, f, time+" in 1", "0 900")
		billsAre(t, f, time+" out 2", "0 900")
		billsAre(t, f, time+" bus 9", "0 175")
		billsAre(t, f, time+" bus 1", "0 175")
		billsAre(t, f, time+" in 9", "0 0")
		billsAre(t, f, time+" out 9", "0 0")
		billsAre(t, withoutStations(), time+" in 1", "0 0")
		billsAre(t, withoutStations(), time+" bus 1000", "0 175")
	}
}

// P21.1: journeys of one day, between all zones, below what caps hold.
func TestOneDay(t *testing.T) {
	f := ofTheWhole()
	billsAre(t, f, "0 Mon 08:00 in 1, 0 Mon 08:20 out 3", "0 200")
	billsAre(t, f, "0 Mon 08:00 in 2, 0 Mon 08:20 out 2", "0 150")
	billsAre(t, f, "0 Mon 08:00 in 2, 0 Mon 08:20 out 1", "0 300")
	billsAre(t, f, "0 Mon 09:29 in 1, 0 Mon 11:29 out 2", "0 300")
	billsAre(t, f, "0 Mon 09:30 in 1, 0 Mon 11:30 out 2", "0 150")
	billsAre(t, f, "0 Mon 09:29 in 1, 0 Mon 11:30 out 2", "0 1800")
	billsAre(t, f, "0 Mon 08:00 in 1, 0 Mon 08:30 out 2, 0 Mon 17:00 in 2, 0 Mon 17:30 out 1", "0 450")
	billsAre(t, f, "0 Mon 08:00 in 1, 0 Mon 08:30 out 2, 0 Mon 09:00 bus 5, 0 Mon 17:00 in 2, 0 Mon 17:30 out 1", "0 625")
	billsAre(t, f, "0 Mon 08:00 in 1, 0 Mon 08:10 bus 5, 0 Mon 08:30 out 2", "0 475")
	billsAre(t, f, "0 Mon 08:00 in 1, 0 Mon 08:10 in 9, 0 Mon 08:30 out 2", "0 300")
}

// P21.1: two stations of one group make one journey of two, as journey.Build does.
func TestChanges(t *testing.T) {
	f := with(func(f *api.Tariff) { f.Stations[0].Group, f.Stations[2].Group, f.Change = 7, 7, 10 })
	billsAre(t, f, "0 Mon 08:00 in 2, 0 Mon 08:20 out 1, 0 Mon 08:30 in 3, 0 Mon 08:50 out 2", "0 150")
	billsAre(t, f, "0 Mon 08:00 in 2, 0 Mon 08:20 out 1, 0 Mon 08:31 in 3, 0 Mon 08:50 out 2", "0 600")
	billsAre(t, f, "0 Mon 08:00 in 2, 0 Mon 08:20 out 1, 0 Mon 08:30 in 3", "0 1200")
}

// P21.1: what a day comes to, below its cap, at it, and above it: by each span, by buses, by both.
func TestDayCaps(t *testing.T) {
	f := ofTheWhole()
	one, two := "0 Mon 08:00 in 1, 0 Mon 08:10 out 3", ", 0 Mon 08:20 in 3, 0 Mon 08:30 out 1"
	three := ", 0 Mon 09:00 in 1, 0 Mon 09:10 out 3"
	billsAre(t, f, one+two, "0 400")
	billsAre(t, f, one+two+three, "0 500")
	billsAre(t, f, one+two+", 0 Mon 10:00 in 1, 0 Mon 10:10 out 3", "0 500")
	billsAre(t, f, one+two+", 0 Mon 10:00 in 1, 0 Mon 10:10 out 3, 0 Mon 10:20 in 1, 0 Mon 10:30 out 1", "0 500")
	billsAre(t, f, one+two+", 0 Mon 10:00 in 2, 0 Mon 10:10 out 2", "0 475")
	billsAre(t, f, one+two+three+", 0 Mon 10:00 in 2, 0 Mon 10:10 out 2", "0 675")
	billsAre(t, f, one+two+three+", 0 Mon 10:00 in 2, 0 Mon 10:10 out 1", "0 700")
	billsAre(t, f, "0 Mon 08:00 bus 9, 0 Mon 09:01 bus 9", "0 350")
	billsAre(t, f, "0 Mon 08:00 bus 9, 0 Mon 09:01 bus 9, 0 Mon 10:02 bus 9", "0 400")
	billsAre(t, f, one+", 0 Mon 09:00 bus 9", "0 375")
	billsAre(t, f, one+two+", 0 Mon 09:00 bus 9", "0 500")
	billsAre(t, f, one+", 0 Mon 09:00 bus 9, 0 Mon 11:00 bus 9, 0 Mon 13:00 bus 9", "0 500")
}

// P21.1: journeys without an exit and without an entry are beside what caps hold.
func TestBesideCaps(t *testing.T) {
	f := ofTheWhole()
	capped := "0 Mon 08:00 in 1, 0 Mon 08:10 out 3, 0 Mon 08:20 in 3, 0 Mon 08:30 out 1, 0 Mon 08:40 in 1, 0 Mon 08:50 out 3"
	billsAre(t, f, capped+", 0 Mon 09:00 in 2", "0 1400")
	billsAre(t, f, capped+", 0 Mon 09:00 out 2", "0 1400")
	billsAre(t, f, capped+", 0 Mon 09:00 out 2, 0 Mon 09:10 in 2", "0 2300")
	billsAre(t, f, "0 Mon 06:00 bus 9, 0 Mon 07:01 bus 9, 0 Mon 08:02 bus 9, 0 Mon 09:00 in 2", "0 1300")
	week := daily(0, allDays, "08:00 in 1, 08:10 out 3, 08:20 in 3, 08:30 out 1, 08:40 in 1, 08:50 out 3")
	billsAre(t, f, week, "0 2000")
	billsAre(t, f, week+", 0 Sun 10:00 in 2", "0 2900")
	billsAre(t, f, daily(0, allDays, "08:00 in 1, 08:10 out 3, 08:20 in 3, 08:30 out 1, 08:40 in 1, 08:50 out 3, 09:00 out 1"), "0 8300")
}

// P21.1: what a week comes to, below its cap, at it, and above it: by zones, by buses, by both; days without taps are none.
func TestWeekCaps(t *testing.T) {
	f := ofTheWhole()
	there := "08:00 in 1, 08:30 out 2, 09:00 in 2, 09:20 out 1"
	billsAre(t, f, daily(0, "Mon Tue", there), "0 1200")
	billsAre(t, f, daily(0, "Mon Tue Thu", there), "0 1800")
	billsAre(t, f, daily(0, "Mon Tue Wed Fri", there), "0 2400")
	billsAre(t, f, daily(0, "Mon Tue Wed Thu Sun", there), "0 2700")
	billsAre(t, f, daily(0, "Mon Tue Wed Fri Sat Sun", there), "0 2800")
	billsAre(t, f, daily(0, mondayToFriday, there), "0 2800")
	billsAre(t, f, daily(0, allDays, there), "0 2800")
	within := "08:00 in 1, 08:30 out 3, 09:00 in 3, 09:20 out 1"
	billsAre(t, f, daily(0, mondayToFriday, within), "0 2000")
	billsAre(t, f, daily(0, allDays, within), "0 2000")
	billsAre(t, f, daily(0, mondayToFriday, within)+", 0 Sat 08:00 in 2, 0 Sat 08:30 out 2", "0 2075")
	rides := "08:00 bus 9, 09:01 bus 9, 10:02 bus 9"
	billsAre(t, f, daily(0, "Mon Wed Sun", rides), "0 1200")
	billsAre(t, f, daily(0, "Mon Wed Sat Sun", rides), "0 1500")
	billsAre(t, f, daily(0, allDays, rides), "0 1500")
	billsAre(t, f, daily(0, allDays, rides)+", 1 Mon 04:00 in 1, 1 Mon 04:29 out 1", "0 1600")
	billsAre(t, f, daily(0, mondayToFriday, rides+", 12:00 in 1, 12:30 out 1"), "0 2000")
	dear := with(func(f *api.Tariff) { f.BusDaily, f.BusWeekly = 800, 3000 })
	billsAre(t, dear, daily(0, allDays, rides), "0 3000")
	billsAre(t, dear, daily(0, allDays, rides+", 12:00 in 1, 12:30 out 1"), "0 3000")
}

// P21.1: of two weeks, and of weeks far apart, each is listed once, in order, and held by a cap of its own; weeks between them that have no tap are not listed.
func TestWeeks(t *testing.T) {
	f := ofTheWhole()
	there := "08:00 in 1, 08:30 out 2, 09:00 in 2, 09:20 out 1"
	billsAre(t, f, daily(0, allDays, there)+", "+daily(1, allDays, there), "0 2800, 1 2800")
	billsAre(t, f, daily(0, "Sat Sun", there)+", "+daily(1, "Mon Tue", there), "0 600, 1 1200")
	billsAre(t, f, daily(3, allDays, there)+", "+daily(4, "Mon Sun", there)+", "+daily(5, mondayToFriday, there), "3 2800, 4 900, 5 2800")
	billsAre(t, f, "0 Mon 08:00 in 1, 2 Sun 08:00 bus 9, 500 Wed 08:00 out 2, 100000 Thu 08:00 in 2, 100000 Thu 09:00 out 1", "0 900, 2 175, 500 900, 100000 300")
	billsAre(t, f, "7 Mon 08:00 in 1, 8 Mon 08:00 in 1, 10 Mon 08:00 in 1", "7 900, 8 900, 10 900")
}

// P21.1: a week's last minute is the one ahead of half past four on a Monday, the next one's first is that.
func TestEdgesOfWeeks(t *testing.T) {
	f := ofTheWhole()
	billsAre(t, f, "1 Mon 04:29 bus 9", "0 175")
	billsAre(t, f, "1 Mon 04:30 bus 9", "1 175")
	billsAre(t, f, "1 Mon 04:29 bus 9, 1 Mon 04:30 bus 9", "0 175, 1 175")
	billsAre(t, f, "1 Mon 04:29 in 1, 1 Mon 04:30 out 2", "0 900, 1 900")
	billsAre(t, f, "0 Sun 23:59 in 1, 1 Mon 00:00 out 2", "0 150")
	billsAre(t, f, "0 Sun 23:00 in 1, 1 Mon 00:30 out 2, 1 Mon 08:00 in 1, 1 Mon 08:30 out 2", "0 150, 1 300")
	billsAre(t, f, "1 Mon 00:30 in 1, 1 Mon 02:30 out 2, 1 Mon 04:29 bus 9, 1 Mon 04:30 in 2, 1 Mon 04:59 out 2", "0 325, 1 75")
	billsAre(t, f, daily(0, allDays, "08:00 in 1, 08:30 out 2, 09:00 in 2, 09:20 out 1")+", 1 Mon 04:00 in 1, 1 Mon 04:29 out 2, 1 Mon 04:30 in 1, 1 Mon 04:59 out 2", "0 2800, 1 150")
}

// P21.1: nothing goes on over the edge of a travel day: no journey, no change, no free ride, no day's cap.
func TestEdgesOfDays(t *testing.T) {
	f := with(func(f *api.Tariff) { f.Stations[0].Group, f.Stations[2].Group, f.Change = 7, 7, 10 })
	billsAre(t, f, "0 Tue 04:00 bus 9, 0 Tue 04:29 bus 9", "0 175")
	billsAre(t, f, "0 Tue 04:29 bus 9, 0 Tue 04:30 bus 9", "0 350")
	billsAre(t, f, "0 Tue 04:29 in 1, 0 Tue 04:30 out 2", "0 1800")
	billsAre(t, f, "0 Tue 04:00 in 2, 0 Tue 04:20 out 1, 0 Tue 04:25 in 3, 0 Tue 04:29 out 2", "0 75")
	billsAre(t, f, "0 Tue 04:00 in 2, 0 Tue 04:20 out 1, 0 Tue 04:30 in 3, 0 Tue 04:40 out 2", "0 300")
	rides := "0 Tue 01:00 bus 9, 0 Tue 02:01 bus 9, 0 Tue 03:02 bus 9, 0 Tue 04:03 bus 9"
	billsAre(t, f, rides, "0 400")
	billsAre(t, f, rides+", 0 Tue 05:04 bus 9, 0 Tue 06:05 bus 9, 0 Tue 07:06 bus 9", "0 800")
}

// P21.1: the first week that times have, the Sunday ahead of the first Monday, and the last one, in which the last time is a Sunday's.
func TestFirstAndLastWeeks(t *testing.T) {
	f := ofTheWhole()
	billsAre(t, f, "0 Mon 00:00 bus 9", "-1 175")
	billsAre(t, f, "0 Mon 00:00 in 1, 0 Mon 01:00 out 2, 0 Mon 04:29 bus 9", "-1 325")
	billsAre(t, f, "0 Mon 04:29 bus 9, 0 Mon 04:30 bus 9", "-1 175, 0 175")
	billsAre(t, f, "0 Mon 01:40 bus 9, 0 Mon 08:00 bus 9, 1 Tue 00:00 bus 9", "-1 175, 0 175, 1 175")
	ride := func(time int) api.Tap {
		return api.Tap{Device: 1, Counter: 1, Token: token, Kind: bus, Place: 9, Time: time}
	}
	first := 10080*lastWeek + 270
	areBills(t, f, nil, []api.Tap{ride(maxTime)}, []api.Bill{{Week: lastWeek, Amount: 175}})
	areBills(t, f, nil, []api.Tap{ride(first - 1), ride(first), ride(maxTime)}, []api.Bill{{Week: lastWeek - 1, Amount: 175}, {Week: lastWeek, Amount: 350}})
	areBills(t, f, nil, []api.Tap{ride(0), ride(maxTime)}, []api.Bill{{Week: -1, Amount: 175}, {Week: lastWeek, Amount: 175}})
	fails(t, f, nil, []api.Tap{ride(0), ride(maxTime + 1)}, api.ErrRecord)
	fails(t, f, nil, []api.Tap{ride(-1), ride(maxTime)}, api.ErrRecord)
}

// P21.1: a week whose taps cost nothing is listed, at the first place, between others, and at the last.
func TestWeeksThatCostNothing(t *testing.T) {
	f := ofTheWhole()
	billsAre(t, f, "0 Mon 08:00 in 9", "0 0")
	billsAre(t, f, "0 Mon 08:00 in 9, 0 Tue 08:00 out 8, 2 Wed 08:00 in 7", "0 0, 2 0")
	billsAre(t, f, "0 Mon 08:00 in 9, 1 Mon 08:00 bus 9, 2 Mon 08:00 out 9, 3 Mon 08:00 in 1, 4 Mon 08:00 in 9", "0 0, 1 175, 2 0, 3 900, 4 0")
	billsAre(t, f, "0 Mon 08:00 in 9, 0 Wed 08:00 bus 9, 0 Fri 08:00 out 9", "0 175")
	free := with(func(f *api.Tariff) {
		f.Bus, f.Most, f.Off = 0, 0, 0
	})
	billsAre(t, free, "0 Mon 08:00 bus 9, 1 Mon 08:00 in 1, 2 Sun 08:00 in 1, 2 Sun 08:30 out 2, 3 Mon 08:00 in 1, 3 Mon 08:30 out 2", "0 0, 1 0, 2 0, 3 300")
}

// P21.1: a tap on each day of a week, the others of which have none; then on all but one.
func TestEachDayOfAWeek(t *testing.T) {
	f := ofTheWhole()
	for _, day := range []string{"Mon", "Tue", "Wed", "Thu", "Fri", "Sat", "Sun"} {
		billsAre(t, f, "5 "+day+" 08:00 bus 9", "5 175")
		its := slices.DeleteFunc(taps(daily(5, allDays, "08:00 bus 9")), func(x api.Tap) bool { return x.Time == minute([]string{"5", day, "08:00"}) })
		areBills(t, f, nil, its, owed("5 1050"))
	}
	billsAre(t, f, daily(5, allDays, "08:00 bus 9"), "5 1225")
}

// many are so many taps alike, so many minutes apart from a time on, of devices and counters that rise.
func many(n, apart, begin, kind, place int) []api.Tap {
	l := make([]api.Tap, n)
	for i := range l {
		l[i] = api.Tap{Device: 1, Counter: 1 + i, Token: token, Kind: kind, Place: place, Time: begin + apart*i}
	}
	return l
}

// P21.1: as many taps as may be: all at one minute, in one day, on as many days, in as many weeks.
func TestManyTaps(t *testing.T) {
	f := ofTheWhole()
	areBills(t, f, nil, many(2000, 0, 480, in, 1), owed("0 1800000"))
	areBills(t, f, nil, many(2000, 0, 480, bus, 9), owed("0 175"))
	areBills(t, f, nil, many(1440, 1, 270, out, 2), owed("0 1296000"))
	areBills(t, f, nil, many(2000, 1, 270, out, 2), owed("0 1800000"))
	areBills(t, f, nil, many(2000, 1, 270+6*1440, bus, 9), owed("0 400, 1 400"))
	by := many(2000, 1, 480, in, 1)
	for i := 1; i < len(by); i += 2 {
		by[i].Kind, by[i].Place = out, 3
	}
	areBills(t, f, nil, by, owed("0 1000"))
	var days, weeks []api.Bill
	for i := range 2000 {
		weeks = append(weeks, api.Bill{Week: i, Amount: 175})
		if i%7 == 0 {
			days = append(days, api.Bill{Week: i / 7, Amount: 1225})
		}
	}
	days[len(days)-1].Amount = 175 * 5
	areBills(t, f, nil, many(2000, 1440, 480, bus, 9), days)
	areBills(t, f, nil, many(2000, 10080, 480, bus, 9), weeks)
}
