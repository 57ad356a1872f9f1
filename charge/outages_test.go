package charge_test

import (
	"math/rand"
	"slices"
	"testing"

	"farebox/api"
)

// P21.1: an outage that holds up all, some and none of a day's journeys.
func TestOutagesOfADay(t *testing.T) {
	f := ofTheWhole()
	day := "0 Mon 08:00 in 1, 0 Mon 08:20 out 2, 0 Mon 10:00 in 2, 0 Mon 10:20 out 3, 0 Mon 12:00 in 3"
	billsAre(t, f, day, "0 1350")
	for l, want := range map[string]string{
		"":                                                                     "0 1350",
		"9 from 0 Mon 00:00 to 0 Sun 00:00":                                    "0 1350",
		"1 from 0 Mon 07:00 to 0 Mon 08:00":                                    "0 1350",
		"1 from 0 Mon 08:21 to 0 Mon 12:00":                                    "0 1350",
		"1 from 0 Mon 08:20 to 0 Mon 12:00":                                    "0 1050",
		"1 from 0 Mon 07:00 to 0 Mon 08:01":                                    "0 1050",
		"2 from 0 Mon 08:20 to 0 Mon 08:21":                                    "0 1050",
		"2 from 0 Mon 08:20 to 0 Mon 10:01":                                    "0 900",
		"2 from 0 Mon 09:00 to 0 Mon 10:01":                                    "0 1200",
		"3 from 0 Mon 12:00 to 0 Mon 12:01":                                    "0 450",
		"3 from 0 Mon 10:00 to 0 Mon 12:01":                                    "0 300",
		"3 from 0 Mon 10:21 to 0 Mon 12:00":                                    "0 1350",
		"1 from 0 Mon 08:00 to 0 Mon 08:01, 3 from 0 Mon 10:20 to 0 Mon 12:30": "0 0",
		"9 from 0 Mon 08:00 to 0 Mon 12:30, 1 from 0 Mon 08:00 to 0 Mon 08:01, 3 from 0 Mon 10:20 to 0 Mon 10:21": "0 900",
		"2 from 0 Mon 08:00 to 0 Mon 12:30, 2 from 0 Mon 08:00 to 0 Mon 12:30":                                    "0 900",
		"1 from 0 Tue 08:00 to 0 Tue 08:20, 1 from 1 Mon 08:00 to 1 Mon 08:20":                                    "0 1350",
	} {
		disturbedAre(t, f, l, day, want)
	}
}

// P21.1: journeys that took less than the Delay, and rides, are not given back; a week whose journeys all are is listed even so.
func TestOutagesOfOtherJourneys(t *testing.T) {
	f := ofTheWhole()
	all := "1 from 0 Mon 00:00 to 0 Sun 00:00, 2 from 0 Mon 00:00 to 0 Sun 00:00, 9 from 0 Mon 00:00 to 0 Sun 00:00"
	disturbedAre(t, f, all, "0 Mon 08:00 in 1, 0 Mon 08:14 out 2", "0 300")
	disturbedAre(t, f, all, "0 Mon 08:00 in 1, 0 Mon 08:15 out 2", "0 0")
	disturbedAre(t, f, all, "0 Mon 08:00 bus 9, 0 Mon 10:00 bus 1, 0 Tue 08:00 bus 9", "0 525")
	disturbedAre(t, f, all, "0 Mon 08:00 in 1, 0 Mon 08:10 in 2, 0 Tue 08:00 out 1", "0 0")
	disturbedAre(t, f, all, "0 Mon 08:00 in 1, 0 Mon 08:30 out 2, 1 Mon 08:00 in 1, 1 Mon 08:30 out 2", "0 0, 1 300")
	disturbedAre(t, f, all, "0 Mon 08:00 in 9, 0 Mon 08:10 out 9, 0 Mon 08:20 in 1", "0 0")
}

// P21.1: an outage that goes over two days, and over two weeks: journeys of both are given back, and only those within.
func TestOutagesOverDays(t *testing.T) {
	f := ofTheWhole()
	lone := "0 Mon 08:00 in 1, 0 Tue 08:00 in 1, 0 Wed 08:00 in 1"
	disturbedAre(t, f, "1 from 0 Mon 08:00 to 0 Tue 08:01", lone, "0 900")
	disturbedAre(t, f, "1 from 0 Mon 08:01 to 0 Wed 08:00", lone, "0 1800")
	disturbedAre(t, f, "1 from 0 Mon 08:00 to 0 Wed 08:01", lone, "0 0")
	disturbedAre(t, f, "1 from 0 Tue 00:00 to 0 Tue 05:00", "0 Tue 04:20 in 1, 0 Tue 04:40 out 1", "0 0")
	weeks := "0 Sun 08:00 in 1, 0 Sun 08:30 out 2, 0 Sun 12:00 in 1, 1 Mon 08:00 in 2, 1 Mon 08:30 out 1, 1 Mon 12:00 out 1"
	billsAre(t, f, weeks, "0 1050, 1 1200")
	disturbedAre(t, f, "1 from 0 Sun 11:00 to 1 Mon 09:00", weeks, "0 150, 1 900")
	disturbedAre(t, f, "1 from 0 Sun 08:00 to 1 Mon 12:01", weeks, "0 0, 1 0")
	disturbedAre(t, f, "2 from 0 Sun 08:30 to 1 Mon 08:01", weeks, "0 900, 1 900")
	disturbedAre(t, f, "1 from 1 Mon 00:00 to 9 Mon 00:00", weeks, "0 1050, 1 0")
	disturbedAre(t, f, "1 from 0 Mon 00:00 to 1 Mon 08:00", weeks, "0 0, 1 1200")
	disturbedAre(t, f, "1 from 1 Mon 04:00 to 1 Mon 05:00", "1 Mon 04:29 in 1, 1 Mon 04:30 in 1", "0 0, 1 0")
	disturbedAre(t, f, "1 from 1 Mon 04:00 to 1 Mon 04:30", "1 Mon 04:29 in 1, 1 Mon 04:30 in 1", "0 0, 1 900")
}

// P21.1: what is given back is taken off ahead of the caps: an outage that lowers a day, or a week, below its cap, and one that does not.
func TestOutagesAndCaps(t *testing.T) {
	f := ofTheWhole()
	day := "0 Mon 08:00 in 1, 0 Mon 08:15 out 2, 0 Mon 08:20 in 2, 0 Mon 08:35 out 1, 0 Mon 08:40 in 1, 0 Mon 08:55 out 2, 0 Mon 09:00 in 2, 0 Mon 09:15 out 1"
	billsAre(t, f, day, "0 700")
	disturbedAre(t, f, "1 from 0 Mon 08:00 to 0 Mon 08:16", day, "0 700")
	disturbedAre(t, f, "1 from 0 Mon 08:00 to 0 Mon 08:21", day, "0 600")
	disturbedAre(t, f, "2 from 0 Mon 08:00 to 0 Mon 08:41", day, "0 300")
	disturbedAre(t, f, "2 from 0 Mon 08:00 to 0 Mon 09:01", day, "0 0")
	week := daily(0, allDays, "08:00 in 1, 08:30 out 2, 09:00 in 2, 09:20 out 1")
	billsAre(t, f, week, "0 2800")
	disturbedAre(t, f, "1 from 0 Mon 08:00 to 0 Mon 08:01", week, "0 2800")
	disturbedAre(t, f, "1 from 0 Mon 08:00 to 0 Tue 00:00", week, "0 2800")
	disturbedAre(t, f, "1 from 0 Mon 08:00 to 0 Tue 08:01", week, "0 2700")
	disturbedAre(t, f, "1 from 0 Mon 08:00 to 0 Sat 00:00", week, "0 600")
	beside := "0 Mon 08:00 in 1, 0 Mon 08:15 out 2, 0 Mon 08:20 in 2, 0 Mon 08:35 out 1, 0 Mon 08:40 in 1, 0 Mon 08:55 out 2, 0 Mon 09:00 in 2"
	billsAre(t, f, beside, "0 1600")
	disturbedAre(t, f, "2 from 0 Mon 09:00 to 0 Mon 09:01", beside, "0 700")
	disturbedAre(t, f, "1 from 0 Mon 08:00 to 0 Mon 08:21", beside, "0 1200")
}

// P21.1: what is held up is one of the day's journeys even so: its zones say which caps hold.
func TestHeldUpZones(t *testing.T) {
	f := ofTheWhole()
	day := "0 Mon 07:00 in 2, 0 Mon 07:30 out 2, 0 Mon 08:00 in 1, 0 Mon 08:10 out 3, 0 Mon 08:20 in 3, 0 Mon 08:30 out 1, 0 Mon 08:40 in 1, 0 Mon 08:50 out 3"
	billsAre(t, f, day, "0 700")
	disturbedAre(t, f, "2 from 0 Mon 07:00 to 0 Mon 07:10", day, "0 600")
	week := daily(0, mondayToFriday, "08:00 in 1, 08:20 out 3, 08:30 in 3, 08:50 out 1, 09:00 in 1, 09:14 out 3")
	billsAre(t, f, week, "0 2000")
	billsAre(t, f, week+", 0 Sat 08:00 in 2, 0 Sat 08:30 out 2", "0 2575")
	disturbedAre(t, f, "2 from 0 Sat 08:00 to 0 Sat 08:01", week+", 0 Sat 08:00 in 2, 0 Sat 08:30 out 2", "0 2500")
}

// P21.1: as many outages as may be: each of them counts, wherever it stands.
func TestManyOutages(t *testing.T) {
	f := ofTheWhole()
	its := taps("0 Mon 08:00 in 1, 0 Tue 08:00 in 2, 3 Mon 08:00 in 1")
	areBills(t, f, manyOutages(100)[3:], its, owed("0 1800, 3 900"))
	for _, n := range []int{1, 2, 50, 100} {
		for _, i := range []int{0, n / 2, n - 1} {
			l := make([]api.Outage, n)
			for k := range l {
				l[k] = api.Outage{Station: 3, From: 0, To: maxTime}
			}
			areBills(t, f, l, its, owed("0 1800, 3 900"))
			l[i] = outages("2 from 0 Tue 07:00 to 0 Tue 09:00")[0]
			areBills(t, f, l, its, owed("0 900, 3 900"))
			l[i] = outages("1 from 0 Wed 07:00 to 3 Tue 00:00")[0]
			areBills(t, f, l, its, owed("0 1800, 3 0"))
		}
	}
}

// P21.1: in whatever order outages stand, and if some are there twice, the same is owed.
func TestOrderOfOutages(t *testing.T) {
	rnd := rand.New(rand.NewSource(212))
	for range 300 {
		f := someTariff(rnd)
		its := someTaps(rnd, f, 30)
		l := someOutages(rnd, its, 6)
		want, _ := bills(t, f, l, its)
		l = append(l, l[:len(l)/2]...)
		rnd.Shuffle(len(l), func(i, k int) { l[i], l[k] = l[k], l[i] })
		if got, e := bills(t, f, l, its); e != api.OK || !slices.Equal(got, want) {
			t.Fatalf("%v, %d, not %v", got, e, want)
		}
	}
}
