package charge_test

import (
	"math/rand"
	"slices"
	"testing"

	"farebox/api"
	"farebox/charge"
)

// billsOf are bills that there are, with their charge, which is all of them together.
func billsOf(t *testing.T, f api.Tariff, l []api.Outage, its []api.Tap) ([]api.Bill, int) {
	t.Helper()
	got, e := charge.Bills(f, l, its)
	n, nE := charge.Charge(f, l, its)
	sum := 0
	for _, b := range got {
		sum += b.Amount
	}
	if e != api.OK || nE != api.OK || n != sum {
		t.Fatalf("%v, %d, %d, %d of %s", got, e, n, nE, short(its))
	}
	return got, n
}

// isNoMore tells whether of the same weeks no bill is more than the other one.
func isNoMore(less, more []api.Bill) bool {
	return slices.EqualFunc(less, more, func(a, b api.Bill) bool { return a.Week == b.Week && a.Amount <= b.Amount })
}

// P21.4: with outages each bill, and the charge, are no more than without; with more of them no more than with fewer.
func TestRefunds(t *testing.T) {
	rnd := rand.New(rand.NewSource(213))
	back := 0
	for range 2000 {
		f := someTariff(rnd)
		its := someTaps(rnd, f, 40)
		l := someOutages(rnd, its, 5)
		without, all := billsOf(t, f, nil, its)
		some, left := billsOf(t, f, l, its)
		more, least := billsOf(t, f, append(slices.Clone(l), someOutage(rnd, its)), its)
		if !isNoMore(some, without) || !isNoMore(more, some) || left > all || least > left {
			t.Fatalf("%v without outages, %v with %v, %v with one more; %s; %v", without, some, l, more, short(its), f)
		}
		if left < all {
			back++
		}
	}
	if back < 500 {
		t.Error("only so often something is given back:", back)
	}
}

// bound is what P21.5 says that a week's bill is at most.
func bound(f api.Tariff, week int, its []api.Tap) int {
	most := f.BusWeekly
	for _, s := range f.Spans {
		most = max(most, s.Weekly)
	}
	for _, x := range its {
		if slowWeekNumber(slowDayNumber(x.Time)) == week && x.Kind != bus {
			most += f.Most
		}
	}
	return most
}

// P21.5: what a bill is at most.
func TestBound(t *testing.T) {
	rnd := rand.New(rand.NewSource(214))
	at := 0
	for range 2000 {
		f := someTariff(rnd)
		its := someTaps(rnd, f, 60)
		if rnd.Intn(3) == 0 {
			its = slices.DeleteFunc(its, func(x api.Tap) bool { return x.Kind != bus })
		}
		for _, l := range [][]api.Outage{nil, someOutages(rnd, its, 3)} {
			got, _ := billsOf(t, f, l, its)
			for _, b := range got {
				if most := bound(f, b.Week, its); b.Amount < 0 || b.Amount > most {
					t.Fatalf("%v, at most %d; %s; %v", b, most, short(its), f)
				} else if b.Amount == most {
					at++
				}
			}
		}
	}
	if at < 40 {
		t.Error("only so many bills are at the most:", at)
	}
}

// ofWeeks are the taps of some weeks.
func ofWeeks(its []api.Tap, weeks map[int]int) []api.Tap {
	var l []api.Tap
	for _, x := range its {
		if weeks[slowWeekNumber(slowDayNumber(x.Time))] == 1 {
			l = append(l, x)
		}
	}
	return l
}

// P21.5: the bills of some weeks are the same whatever taps of other weeks stand beside them.
func TestOtherWeeks(t *testing.T) {
	rnd := rand.New(rand.NewSource(215))
	apart := 0
	for range 1500 {
		f := someTariff(rnd)
		its := someTaps(rnd, f, 60)
		l := someOutages(rnd, its, 3)
		all, _ := billsOf(t, f, l, its)
		some := map[int]int{}
		for _, b := range all {
			some[b.Week] = rnd.Intn(2)
		}
		want := slices.DeleteFunc(slices.Clone(all), func(b api.Bill) bool { return some[b.Week] == 0 })
		if got, _ := billsOf(t, f, l, ofWeeks(its, some)); !slices.Equal(got, want) {
			t.Fatalf("%v alone, %v among %v; %s; %v", got, want, all, short(its), f)
		}
		if len(want) > 0 && len(want) < len(all) {
			apart++
		}
	}
	if apart < 400 {
		t.Error("only so often there are other weeks:", apart)
	}
}

// P21.5: taps at both sides of the edge of two weeks, of any kind: each week is as without the other one.
func TestOtherWeeksAtTheEdge(t *testing.T) {
	f := with(func(f *api.Tariff) { f.Stations[0].Group, f.Stations[2].Group, f.Change = 7, 7, 10 })
	var one, two []api.Tap
	for _, kind := range []int{in, out, bus} {
		for place := 1; place <= 3; place++ {
			one = append(one, many(1, 0, 10080+269, kind, place)...)
			two = append(two, many(1, 0, 10080+270, kind, place)...)
		}
	}
	ahead, behind := taps("1 Mon 04:20 in 2, 1 Mon 04:25 out 1"), taps("1 Mon 04:32 out 2, 1 Mon 04:35 bus 9")
	for _, x := range one {
		for _, y := range two {
			first, second := append(slices.Clone(ahead), x), append([]api.Tap{y}, behind...)
			a, _ := bills(t, f, nil, first)
			b, _ := bills(t, f, nil, second)
			areBills(t, f, nil, append(first, second...), append(a, b...))
		}
	}
}

// P21.6: other Tokens, Devices and Counters change nothing, as long as the taps stand in the same order.
func TestRenamed(t *testing.T) {
	rnd := rand.New(rand.NewSource(216))
	for range 1000 {
		f := someTariff(rnd)
		its := someTaps(rnd, f, 40)
		l := someOutages(rnd, its, 3)
		want, n := billsOf(t, f, l, its)
		other := renamed(rnd, its)
		if got, m := billsOf(t, f, l, other); !slices.Equal(got, want) || m != n {
			t.Fatalf("%v of %s, %v of %s", got, short(other), want, short(its))
		}
	}
}

// P21.6: the least and the greatest numbers of devices and counters, and any bytes as a token.
func TestAnyNames(t *testing.T) {
	f := ofTheWhole()
	its := taps("0 Mon 08:00 in 1, 0 Mon 08:30 out 2, 0 Mon 09:00 bus 9, 1 Mon 08:00 in 2")
	for _, name := range []string{"abcdefgh", "\x00\x00\x00\x00\x00\x00\x00\x00", "\xff\xff\xff\xff\xff\xff\xff\xff", "t 1, a 2", "äöü€"[:8]} {
		for _, device := range []int{1, 2, 65535} {
			for _, counter := range []int{1, 2, 1<<32 - 1} {
				for i := range its {
					its[i].Token, its[i].Device, its[i].Counter = name, device, counter
				}
				areBills(t, f, nil, its, owed("0 475, 1 900"))
			}
		}
	}
}

// P21.1, P21.2: many tariffs, outages and taps against the chapter told slowly.
func TestMany(t *testing.T) {
	rnd := rand.New(rand.NewSource(217))
	weeks, nothing := 0, 0
	for range 3000 {
		f := someTariff(rnd)
		its := someTaps(rnd, f, 50)
		got, e := bills(t, f, someOutages(rnd, its, 4), its)
		if e != api.OK {
			t.Fatalf("%d of %s; %v", e, short(its), f)
		}
		weeks += len(got)
		for _, b := range got {
			if b.Amount == 0 {
				nothing++
			}
		}
	}
	if weeks < 4000 || nothing < 200 {
		t.Error("only so many weeks, and such as cost nothing:", weeks, nothing)
	}
}

// P21.1, P21.4 to P21.6: as many taps and outages as may be.
func TestManyAtTheLimits(t *testing.T) {
	rnd := rand.New(rand.NewSource(218))
	for range 3 {
		f := someTariff(rnd)
		w := someWay{rnd: rnd, device: 1}
		for range 2000 {
			w.next(min(w.someGap(f), maxTime-w.time))
		}
		l := make([]api.Outage, 100)
		for i := range l {
			l[i] = someOutage(rnd, w.taps)
		}
		bills(t, f, l, w.taps)
		without, _ := billsOf(t, f, nil, w.taps)
		some, _ := billsOf(t, f, l, w.taps)
		if other, _ := billsOf(t, f, l, renamed(rnd, w.taps)); !isNoMore(some, without) || !slices.Equal(other, some) {
			t.Fatalf("%v, %v without outages, %v renamed", some, without, other)
		}
	}
}

// P21.1: every row of up to three taps, of few kinds of them, about the edges of days and weeks.
func TestEveryFewTaps(t *testing.T) {
	f := with(func(f *api.Tariff) { f.Stations[2].Group, f.Change, f.Hopper, f.Longest = 7, 10, 60, 120 })
	l := outages("2 from 1 Mon 04:00 to 1 Mon 04:31")
	var its []api.Tap
	var all func(time int)
	all = func(time int) {
		bills(t, f, l, its)
		if len(its) == 3 {
			return
		}
		for _, gap := range []int{0, 20, 70, 1440} {
			for _, x := range [][2]int{{in, 1}, {out, 2}, {bus, 9}, {in, 9}} {
				its = append(its, api.Tap{Device: 1, Counter: 1 + len(its), Token: token, Kind: x[0], Place: x[1], Time: time + gap})
				all(time + gap)
				its = its[:len(its)-1]
			}
		}
	}
	all(10080 + 230)
}

// FuzzBilled looks for taps of which something else is owed than the chapter tells. Each tap is four bytes: its kind and device, its place, and how far behind the last one it is.
func FuzzBilled(f *testing.F) {
	f.Add(uint16(700), uint16(2800), uint16(1500), uint16(900), 1, 480, 60, []byte{1, 1, 1, 224, 2, 2, 0, 30, 3, 9, 5, 160, 1, 3, 0, 5})
	f.Add(uint16(0), uint16(0), uint16(0), uint16(0), 2, 0, 20000, []byte{3, 9, 1, 14, 3, 9, 0, 1, 1, 2, 39, 96, 2, 1, 0, 15})
	f.Fuzz(func(t *testing.T, day, week, buses, most uint16, station, from, lasts int, b []byte) {
		tariff := with(func(f *api.Tariff) {
			for i := range f.Spans {
				f.Spans[i].Daily, f.Spans[i].Weekly = int(day), int(week)
			}
			f.BusWeekly, f.Most = int(buses), int(most)
		})
		l := []api.Outage{{Station: station, From: from, To: from + lasts}}
		time := 0
		var its []api.Tap
		for ; len(b) >= 4; b = b[4:] {
			time += int(b[2])<<8 + int(b[3])
			its = append(its, api.Tap{Device: 1 + int(b[0]>>2), Counter: 1 + len(its), Token: token, Kind: int(b[0] & 3), Place: int(b[1]), Time: time})
		}
		without, e := bills(t, tariff, nil, its)
		some, someE := bills(t, tariff, l, its)
		if e != api.OK || someE != api.OK {
			return
		}
		if !isNoMore(some, without) {
			t.Fatalf("%v, without outages %v", some, without)
		}
		for _, b := range without {
			if b.Amount > bound(tariff, b.Week, its) {
				t.Fatalf("%v is above %d", b, bound(tariff, b.Week, its))
			}
		}
	})
}
