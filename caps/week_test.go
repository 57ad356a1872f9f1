package caps_test

import (
	"math"
	"math/rand"
	"slices"
	"testing"

	"farebox/api"
)

// daysFrom are so many days, each like the first one.
func daysFrom(d api.Day, many int) []api.Day {
	l := make([]api.Day, many)
	for i := range l {
		l[i] = d
		l[i].Day += i
	}
	return l
}

// P19.2: the chapter's example, and the document's.
func TestChapterWeeks(t *testing.T) {
	f := ofTheChapter()
	weekIs(t, f, daysFrom(api.Day{Rail: 200, Bus: 400, Capped: 500, Most: 900, Low: 1, High: 1}, 5), 2000+4500)
	day, _ := dayOf(t, f, 0, []api.Priced{rail(1, 2, 300), other(bus, 175), other(bus, 175)})
	weekIs(t, f, daysFrom(day, 5), 2800)
	weekIs(t, f, []api.Day{{Day: 0, Most: 900}, {Day: 1, Most: 900}}, 1800)
}

// P19.2, W5: no days, and days of nothing.
func TestNoDays(t *testing.T) {
	f := ofTheChapter()
	weekIs(t, f, nil, 0)
	weekIs(t, f, []api.Day{}, 0)
	for many := 1; many <= 7; many++ {
		weekIs(t, f, daysFrom(api.Day{}, many), 0)
	}
}

// P19.2: as many days as there may be, one more, and many more, wrong ones too.
func TestHowManyDays(t *testing.T) {
	f := ofTheChapter()
	for many := 1; many <= 7; many++ {
		weekIs(t, f, daysFrom(byRail(7, 10, 1, 2), many), 10*many)
	}
	for _, many := range []int{8, 9, 14, 256, 257, 65536 + 3} {
		weekFails(t, f, daysFrom(byRail(7, 10, 1, 2), many), api.ErrLong)
		weekFails(t, f, make([]api.Day, many), api.ErrLong)
		weekFails(t, f, daysFrom(api.Day{Rail: -1, Low: -1}, many), api.ErrLong)
	}
	weekFails(t, f, make([]api.Day, 7), api.ErrTime)
	weekFails(t, f, daysFrom(byRail(8, 10, 1, 2), 7), api.ErrTime)
}

// P19.2: a tariff that may not be, whatever the days.
func TestWeeksOfWrongTariffs(t *testing.T) {
	for _, x := range wrongTariffs() {
		for _, l := range [][]api.Day{nil, {byRail(0, 10, 1, 2)}, make([]api.Day, 2), {{Rail: -1}}, {{Low: 1}}, make([]api.Day, 8)} {
			weekFails(t, x.tariff, l, x.want)
		}
	}
}

// P19.2: any choice of a week's days, in order, in the first weeks, and at the edges of what chapter 6 tells.
func TestDaysOfOneWeek(t *testing.T) {
	f := ofTheChapter()
	for _, monday := range []int{-7 * 1000, -14, -7, 0, 7, 14, 7 * 213043, 7 * (maxTotal / 7), -7 * (maxTotal / 7)} {
		for choice := range 128 {
			var l []api.Day
			for i := range 7 {
				if day := monday + i; choice>>i&1 == 1 && day <= maxTotal {
					l = append(l, byRail(day, 10, 1, 1))
				}
			}
			weekIs(t, f, l, 10*len(l))
		}
	}
}

// P19.2: any two days: one is behind the other, and in its week, or that is told.
func TestTwoDays(t *testing.T) {
	f := ofTheChapter()
	for a := -15; a <= 22; a++ {
		for b := -15; b <= 22; b++ {
			l := []api.Day{byRail(a, 10, 1, 1), byRail(b, 10, 1, 1)}
			if b > a && (a+70)/7 == (b+70)/7 {
				weekIs(t, f, l, 20)
			} else {
				weekFails(t, f, l, api.ErrTime)
			}
		}
	}
	weekFails(t, f, []api.Day{buses(6, 1), buses(7, 1)}, api.ErrTime)
	weekFails(t, f, []api.Day{buses(-1, 1), buses(0, 1)}, api.ErrTime)
	weekIs(t, f, []api.Day{buses(0, 1), buses(6, 1)}, 2)
	weekIs(t, f, []api.Day{buses(-7, 1), buses(-1, 1)}, 2)
}

// P19.2: of three and more days each is held against the one ahead of it.
func TestOrderOfDays(t *testing.T) {
	f := ofTheChapter()
	for _, days := range [][]int{{0, 2, 1}, {1, 0, 2}, {0, 1, 1}, {0, 0, 1}, {0, 1, 0}, {2, 1, 0}, {0, 1, 7}, {0, 6, 7}, {0, 6, 13}, {6, 7, 8}, {-1, 0, 1}, {0, 1, 2, 3, 4, 5, 5}, {0, 1, 2, 3, 4, 6, 5}, {0, 1, 2, 3, 4, 5, 7}, {1, 2, 3, 4, 5, 6, 7}, {0, 7, 14, 21}, {5, 4, 3, 2, 1, 0}} {
		var l []api.Day
		for _, day := range days {
			l = append(l, buses(day, 1))
		}
		weekFails(t, f, l, api.ErrTime)
	}
}

// P19.2: days that can't be: alone they may be any; where chapter 6 tells no week, it is 0, and so they go with one another and with the days of week 0.
func TestDaysThatCannotBe(t *testing.T) {
	f := ofTheChapter()
	for _, day := range append(daysWithoutTimes(), -1, lastDay) {
		weekIs(t, f, []api.Day{buses(day, 1)}, 1)
		weekFails(t, f, []api.Day{buses(day, 1), buses(day, 1)}, api.ErrTime)
	}
	for _, x := range []struct {
		a, b int
		want api.Errno
	}{
		{math.MinInt, math.MaxInt, api.OK}, {math.MaxInt, math.MinInt, api.ErrTime}, {math.MaxInt - 1, math.MaxInt, api.OK}, {math.MinInt, math.MinInt + 1, api.OK}, {math.MinInt + 1, math.MinInt, api.ErrTime},
		{math.MinInt, 0, api.OK}, {math.MinInt, 6, api.OK}, {math.MinInt, 7, api.ErrTime}, {math.MinInt, -1, api.ErrTime}, {0, math.MaxInt, api.OK}, {6, math.MaxInt, api.OK}, {7, math.MaxInt, api.ErrTime}, {-1, math.MaxInt, api.ErrTime},
		{maxTotal, maxTotal + 1, api.ErrTime}, {maxTotal + 1, maxTotal + 2, api.OK}, {maxTotal - 1, maxTotal, api.OK}, {-maxTotal - 1, -maxTotal, api.ErrTime}, {-maxTotal - 2, -maxTotal - 1, api.OK}, {-maxTotal, -maxTotal + 1, api.OK},
	} {
		l := []api.Day{buses(x.a, 1), buses(x.b, 1)}
		if x.want == api.OK {
			weekIs(t, f, l, 2)
		} else {
			weekFails(t, f, l, x.want)
		}
	}
}

// P19.2: Rail, Bus, Capped and Most of 0 and of 2^40, and beside them.
func TestTotals(t *testing.T) {
	f := ofTheChapter()
	for _, n := range []int{0, 1, maxTotal - 1, maxTotal} {
		weekIs(t, f, []api.Day{{Rail: n}}, 0)
		weekIs(t, f, []api.Day{{Most: n}}, n)
		weekIs(t, f, []api.Day{{Capped: n}}, n)
		weekIs(t, f, []api.Day{{Bus: n, Capped: n}}, min(n, 1500))
		weekIs(t, f, []api.Day{{Bus: n, Capped: maxTotal}}, min(n, 1500)+maxTotal-n)
		weekIs(t, f, []api.Day{{Rail: n, Bus: n, Capped: n, Most: n, Low: 1, High: 1}}, min(n, 1500)+n)
	}
	for _, n := range []int{-1, -2, -maxTotal, math.MinInt, maxTotal + 1, maxTotal + 2, 1 << 53, math.MaxInt} {
		for _, d := range []api.Day{{Rail: n}, {Bus: n}, {Capped: n}, {Most: n}, {Bus: n, Capped: n}, {Bus: n, Capped: maxTotal}, {Rail: n, Bus: n, Capped: n, Most: n}, {Rail: n, Low: 1, High: 2}} {
			weekFails(t, f, []api.Day{d}, api.ErrMoney)
			d.Day = 1
			weekFails(t, f, []api.Day{buses(0, 1), d, buses(2, 1)}, api.ErrMoney)
		}
	}
	weekIs(t, f, daysFrom(api.Day{Rail: maxTotal, Bus: maxTotal, Capped: maxTotal, Most: maxTotal}, 7), 1500+7*maxTotal)
	weekIs(t, f, daysFrom(api.Day{Rail: maxTotal, Capped: maxTotal, Most: maxTotal}, 7), 14*maxTotal)
}

// P19.2: a Capped that is Bus, one above it, one below it; Rail is not asked for more.
func TestCappedAndBus(t *testing.T) {
	f := ofTheChapter()
	for _, n := range []int{1, 2, 400, 1500, maxTotal} {
		weekIs(t, f, []api.Day{{Bus: n, Capped: n}}, min(n, 1500))
		weekIs(t, f, []api.Day{{Rail: 5, Bus: n, Capped: n, Low: 1, High: 1}}, min(n, 1500))
		weekIs(t, f, []api.Day{{Bus: n - 1, Capped: n}}, min(n-1, 1500)+1)
		weekFails(t, f, []api.Day{{Bus: n, Capped: n - 1}}, api.ErrMoney)
		weekFails(t, f, []api.Day{{Rail: n, Bus: n, Most: n}}, api.ErrMoney)
	}
	weekIs(t, f, []api.Day{{Rail: 1, Capped: 100, Low: 1, High: 1}}, 100)
}

// P19.2: each Low and High: both 0, or a span that the tariff has.
func TestLowAndHigh(t *testing.T) {
	one := with(func(f *api.Tariff) { f.Stations, f.Spans = f.Stations[:1], f.Spans[:1] })
	none := with(func(f *api.Tariff) { f.Stations, f.Spans = nil, f.Spans[:1] })
	for _, x := range []struct {
		tariff api.Tariff
		zones  int
	}{{one, 1}, {none, 1}, {ofTheChapter(), 2}, {zoned(), 9}} {
		for low := -2; low <= 11; low++ {
			for high := -2; high <= 11; high++ {
				l := []api.Day{byRail(0, 10, low, high)}
				if low == 0 && high == 0 || low >= 1 && low <= high && high <= x.zones {
					weekIs(t, x.tariff, l, 10)
				} else {
					weekFails(t, x.tariff, l, api.ErrArg)
				}
			}
		}
	}
	for _, n := range []int{math.MinInt, math.MinInt + 1, math.MaxInt, 1 << 32, 1<<32 + 1, -1 << 32} {
		for _, x := range [][2]int{{n, n}, {0, n}, {n, 0}, {1, n}, {n, 1}, {2, n}, {n, 2}, {n, -n}} {
			weekFails(t, ofTheChapter(), []api.Day{byRail(0, 10, x[0], x[1])}, api.ErrArg)
			weekFails(t, ofTheChapter(), []api.Day{byRail(0, 10, 1, 2), byRail(1, 10, x[0], x[1])}, api.ErrArg)
		}
	}
}

// P19.2, W4: of several things wrong with one day: each choice of them.
func TestFirstErrorOfADay(t *testing.T) {
	f := ofTheChapter()
	for choice := 1; choice < 16; choice++ {
		d, want := byRail(1, 10, 1, 2), api.OK
		if choice&8 != 0 {
			d.High, want = 3, api.ErrArg
		}
		if choice&4 != 0 {
			d.Bus, want = 11, api.ErrMoney
		}
		if choice&2 != 0 {
			d.Most, want = -1, api.ErrMoney
		}
		if choice&1 != 0 {
			d.Day, want = 0, api.ErrTime
		}
		weekFails(t, f, []api.Day{buses(0, 1), d}, want)
		weekFails(t, f, []api.Day{buses(0, 1), d, byRail(2, 10, 1, 2)}, want)
	}
}

// P19.2, W4: the first error of several days, at each place.
func TestFirstDay(t *testing.T) {
	f := ofTheChapter()
	wrongs := []struct {
		spoil func(l []api.Day, i int)
		want  api.Errno
	}{
		{func(l []api.Day, i int) { l[i].Day = l[i-1].Day }, api.ErrTime},
		{func(l []api.Day, i int) { l[i].Day = -1 }, api.ErrTime},
		{func(l []api.Day, i int) { l[i].Day += 7 }, api.ErrTime},
		{func(l []api.Day, i int) { l[i].Rail = -1 }, api.ErrMoney},
		{func(l []api.Day, i int) { l[i].Most = maxTotal + 1 }, api.ErrMoney},
		{func(l []api.Day, i int) { l[i].Capped = l[i].Bus - 1 }, api.ErrMoney},
		{func(l []api.Day, i int) { l[i].Low = 0 }, api.ErrArg},
		{func(l []api.Day, i int) { l[i].High = 3 }, api.ErrArg},
	}
	for i := range 7 {
		for _, x := range wrongs {
			if i == 0 && x.want == api.ErrTime {
				continue
			}
			l := daysFrom(both(0, 5, 10, 1, 2), 7)
			x.spoil(l, i)
			weekFails(t, f, l, x.want)
			for k := i + 1; k < 7; k++ {
				for _, y := range wrongs {
					m := slices.Clone(l)
					y.spoil(m, k)
					if !(k == i+1 && y.want == api.ErrTime) { // else the first one may stand well ahead of it
						weekFails(t, f, m, x.want)
					}
				}
			}
		}
	}
}

// P19.2: B below, at and above BusWeekly, of one day and of several, with zones and without.
func TestBusWeekly(t *testing.T) {
	f := with(func(f *api.Tariff) {
		for i := range f.Spans {
			f.Spans[i].Weekly = 100000
		}
	})
	for _, x := range []struct{ bus, want int }{{0, 0}, {1, 1}, {1498, 1498}, {1499, 1499}, {1500, 1500}, {1501, 1500}, {3000, 1500}, {maxTotal - 20, 1500}} {
		for _, low := range []int{0, 1} {
			for rail := 0; rail <= 20; rail += 10 {
				weekIs(t, f, []api.Day{both(0, x.bus, x.bus+rail, low, 2*low)}, x.want+rail)
				weekIs(t, f, []api.Day{both(0, x.bus/2, x.bus/2+rail, low, 2*low), buses(3, x.bus-x.bus/2)}, x.want+rail)
				weekIs(t, f, []api.Day{buses(2, x.bus/3), buses(4, x.bus/3), both(6, x.bus-2*(x.bus/3), x.bus-2*(x.bus/3)+rail, low, 2*low)}, x.want+rail)
			}
		}
	}
	for _, n := range []int{0, 1, maxFare} {
		f.BusWeekly = n
		weekIs(t, f, daysFrom(buses(0, n+1), 7), n)
		weekIs(t, f, []api.Day{buses(0, n)}, n)
	}
}

// P19.2: B and R below, at and above the Weekly of the span.
func TestWeekly(t *testing.T) {
	f := ofTheChapter()
	for _, x := range []struct{ low, high, weekly int }{{1, 1, 2000}, {2, 2, 2000}, {1, 2, 2800}} {
		for _, b := range []int{0, 1, 1499, 1500, 1600} {
			held := min(b, 1500)
			for _, r := range []int{0, 1, x.weekly - held - 1, x.weekly - held, x.weekly - held + 1, x.weekly - 1, x.weekly, x.weekly + 1, 100000} {
				want := min(held+r, x.weekly)
				weekIs(t, f, []api.Day{both(0, b, b+r, x.low, x.high)}, want)
				weekIs(t, f, []api.Day{buses(0, b), byRail(1, r, x.low, x.high)}, want)
				weekIs(t, f, []api.Day{byRail(0, r, x.low, x.high), buses(1, b)}, want)
				weekIs(t, f, []api.Day{both(0, b/2, b/2+r/2, x.low, x.high), both(5, b-b/2, b-b/2+r-r/2, x.low, x.high)}, want)
			}
		}
	}
}

// P19.2: a B above the Weekly of the span, at it, and one below.
func TestBusAboveWeekly(t *testing.T) {
	f := withDearBus()
	for _, r := range []int{0, 1, 500, 100000} {
		for _, x := range []struct{ b, want int }{{1999, min(1999+r, 2000)}, {2000, 2000}, {2001, 2001}, {2999, 2999}, {3000, 3000}, {3001, 3000}, {50000, 3000}} {
			weekIs(t, f, []api.Day{both(0, x.b, x.b+r, 1, 1)}, x.want)
			weekIs(t, f, []api.Day{both(0, x.b, x.b+r, 2, 2), {Day: 1, Most: 7}}, x.want+7)
			weekIs(t, f, []api.Day{byRail(0, r, 1, 1), buses(1, x.b)}, x.want)
		}
		weekIs(t, f, []api.Day{both(0, 2801, 2801+r, 1, 2)}, 2801)
	}
}

// P19.2: without a Low that is not 0 no Weekly holds, not even one of 0; R is then what the days say.
func TestWithoutZones(t *testing.T) {
	for _, weekly := range []int{0, 1, 2000} {
		f := withDearBus()
		for i := range f.Spans {
			f.Spans[i].Weekly = weekly
		}
		weekIs(t, f, daysFrom(buses(0, 400), 7), 2800)
		weekIs(t, f, daysFrom(buses(0, 500), 7), 3000)
		weekIs(t, f, daysFrom(both(0, 400, 10400, 0, 0), 7), 72800)
		weekIs(t, f, daysFrom(both(0, 500, 10500, 0, 0), 7), 73000)
		weekIs(t, f, []api.Day{{Rail: 5000, Capped: 5000, Most: 1}}, 5001)
		weekIs(t, f, append(daysFrom(both(0, 500, 10500, 0, 0), 6), byRail(6, 0, 1, 2)), 3000)
	}
}

// P19.2: the least Low and the greatest High, of days that have some and of days that have none, in any order.
func TestZonesOfWeeks(t *testing.T) {
	f := zoned()
	for _, x := range []struct {
		l         [][2]int
		low, high int
	}{
		{[][2]int{{3, 3}}, 3, 3}, {[][2]int{{1, 9}}, 1, 9}, {[][2]int{{9, 9}}, 9, 9}, {[][2]int{{0, 0}, {3, 4}}, 3, 4}, {[][2]int{{3, 4}, {0, 0}}, 3, 4}, {[][2]int{{0, 0}, {0, 0}, {5, 6}, {0, 0}}, 5, 6},
		{[][2]int{{3, 4}, {2, 5}}, 2, 5}, {[][2]int{{2, 5}, {3, 4}}, 2, 5}, {[][2]int{{2, 3}, {4, 7}}, 2, 7}, {[][2]int{{4, 7}, {2, 3}}, 2, 7}, {[][2]int{{4, 4}, {8, 8}, {6, 6}}, 4, 8}, {[][2]int{{8, 8}, {0, 0}, {4, 4}}, 4, 8},
		{[][2]int{{1, 1}, {2, 2}, {3, 3}, {4, 4}, {5, 5}, {6, 6}, {7, 7}}, 1, 7}, {[][2]int{{9, 9}, {8, 8}, {7, 7}, {6, 6}, {5, 5}, {4, 4}, {3, 3}}, 3, 9}, {[][2]int{{0, 0}, {9, 9}, {0, 0}, {1, 1}, {0, 0}}, 1, 9}, {[][2]int{{2, 8}, {3, 9}}, 2, 9}, {[][2]int{{3, 9}, {2, 8}}, 2, 9},
	} {
		for _, each := range []int{0, 1, 1000, weeklyOf(x.low, x.high)/len(x.l) + 1, maxTotal} {
			var l []api.Day
			for i, zones := range x.l {
				l = append(l, byRail(i, each, zones[0], zones[1]))
			}
			weekIs(t, f, l, min(each*len(l), weeklyOf(x.low, x.high)))
		}
	}
}

// P19.2: the Most of all days besides, whatever the caps; what Rail says counts for nothing.
func TestMostOfWeeks(t *testing.T) {
	f := ofTheChapter()
	for _, rail := range []int{0, 1, 5000, maxTotal} {
		for _, most := range []int{0, 1, 900, 2800, 100000, maxTotal} {
			weekIs(t, f, daysFrom(api.Day{Rail: rail, Most: most}, 7), 7*most)
			weekIs(t, f, daysFrom(api.Day{Rail: rail, Bus: 400, Capped: 400, Most: most}, 7), 1500+7*most)
			weekIs(t, f, daysFrom(api.Day{Rail: rail, Bus: 400, Capped: 700, Most: most, Low: 1, High: 2}, 7), 2800+7*most)
			weekIs(t, f, []api.Day{{Rail: rail, Most: most}, {Day: 3, Rail: rail, Capped: 300, Low: 1, High: 1}, {Day: 4, Most: 1}}, 301+most)
		}
	}
}

// P19.2: any week of one and two days with few numbers, by a small tariff with any caps.
func TestEverySmallWeek(t *testing.T) {
	var some []api.Day
	for bus := range 3 {
		for r := range 3 {
			for most := range 2 {
				for _, zones := range [][2]int{{0, 0}, {1, 1}, {1, 2}, {2, 2}} {
					some = append(some, api.Day{Rail: r, Bus: bus, Capped: bus + r, Most: most, Low: zones[0], High: zones[1]})
				}
			}
		}
	}
	for c := range 4 * 3 * 4 {
		f := with(func(f *api.Tariff) {
			f.BusWeekly = []int{0, 1, 3, 9}[c%4]
			f.Spans[0].Weekly, f.Spans[1].Weekly, f.Spans[2].Weekly = c/4%3, c/4%3+c/12, c/4%3/2
		})
		for _, a := range some {
			weekOf(t, f, []api.Day{a})
			for _, b := range some {
				b.Day = 1
				weekOf(t, f, []api.Day{a, b})
			}
		}
	}
}

// someDay is one that may be taken into a week, of Day's making or of any other.
func someDay(rnd *rand.Rand, f api.Tariff, day int) api.Day {
	d := api.Day{Day: day, Rail: someFare(rnd, f), Bus: someFare(rnd, f), Most: rnd.Intn(2) * someFare(rnd, f)}
	d.Capped = d.Bus + rnd.Intn(3)*someFare(rnd, f)
	if rnd.Intn(3) > 0 {
		span := f.Spans[rnd.Intn(len(f.Spans))]
		d.Low, d.High = span.From, span.To
	}
	return d
}

// spoiltDay is a day of which something is made any number.
func spoiltDay(rnd *rand.Rand, d api.Day) api.Day {
	part := []*int{&d.Day, &d.Day, &d.Rail, &d.Bus, &d.Capped, &d.Most, &d.Low, &d.High}[rnd.Intn(8)]
	switch rnd.Intn(3) {
	case 0:
		*part = []int{-1, 0, 1, maxTotal, maxTotal + 1, math.MinInt, math.MaxInt}[rnd.Intn(7)]
	case 1:
		*part += rnd.Intn(9) - 4
	case 2:
		*part = rnd.Intn(12)
	}
	return d
}

// P19.2: any week, by any tariff that may be.
func TestAnyWeek(t *testing.T) {
	rnd := rand.New(rand.NewSource(193))
	errors := map[api.Errno]int{}
	for range 5000 {
		f := someTariff(rnd)
		for range 10 {
			monday := 7 * (rnd.Intn(40) - 10)
			var l []api.Day
			for i := range 7 {
				if rnd.Intn(2) == 0 {
					l = append(l, someDay(rnd, f, monday+i))
				}
			}
			for rnd.Intn(3) == 0 && len(l) > 0 {
				i := rnd.Intn(len(l))
				l[i] = spoiltDay(rnd, l[i])
			}
			_, e := weekOf(t, f, l)
			errors[e]++
		}
	}
	if errors[api.OK] < 10000 || errors[api.ErrArg] < 1000 || errors[api.ErrMoney] < 1000 || errors[api.ErrTime] < 1000 {
		t.Error("only so many:", errors)
	}
}
