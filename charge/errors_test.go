package charge_test

import (
	"math"
	"math/rand"
	"slices"
	"testing"

	"farebox/api"
)

type wrongTariff struct {
	tariff api.Tariff
	want   api.Errno
}

// wrongTariffs are such as may not be, by each of chapter 7's looks.
func wrongTariffs() []wrongTariff {
	var l []wrongTariff
	wrong := func(want api.Errno, change func(*api.Tariff)) {
		l = append(l, wrongTariff{with(change), want})
	}
	wrong(api.ErrTariff, func(f *api.Tariff) { *f = api.Tariff{} })
	wrong(api.ErrTariff, func(f *api.Tariff) { f.Stations = make([]api.Station, 201) })
	wrong(api.ErrTariff, func(f *api.Tariff) { f.Stations[1].Id = 1 })
	wrong(api.ErrTariff, func(f *api.Tariff) { f.Stations[2].Id = 65536 })
	wrong(api.ErrTariff, func(f *api.Tariff) { f.Stations[0].Zone = 0 })
	wrong(api.ErrTariff, func(f *api.Tariff) { f.Stations[0].Group = 65536 })
	wrong(api.ErrTariff, func(f *api.Tariff) { f.Spans = f.Spans[:2] })
	wrong(api.ErrTariff, func(f *api.Tariff) { f.Spans[0], f.Spans[2] = f.Spans[2], f.Spans[0] })
	wrong(api.ErrMoney, func(f *api.Tariff) { f.Spans[1].Single = maxFare + 1 })
	wrong(api.ErrMoney, func(f *api.Tariff) { f.Spans[1].Weekly = -1 })
	for _, n := range []int{-1, maxFare + 1} {
		wrong(api.ErrMoney, func(f *api.Tariff) { f.Bus = n })
		wrong(api.ErrMoney, func(f *api.Tariff) { f.BusWeekly = n })
		wrong(api.ErrMoney, func(f *api.Tariff) { f.Most = n })
		wrong(api.ErrMoney, func(f *api.Tariff) { f.Threshold = n })
	}
	wrong(api.ErrTariff, func(f *api.Tariff) { f.Spans[1].Daily = 499 })
	wrong(api.ErrTariff, func(f *api.Tariff) { f.Peak = make([]api.Band, 9) })
	wrong(api.ErrTariff, func(f *api.Tariff) { f.Peak[0].To = 390 })
	for _, off := range []float64{math.Copysign(0, -1), math.NaN(), math.Inf(1), math.Nextafter(1, 2), -1} {
		wrong(api.ErrRate, func(f *api.Tariff) { f.Off = off })
	}
	wrong(api.ErrTariff, func(f *api.Tariff) { f.Longest = 0 })
	wrong(api.ErrTariff, func(f *api.Tariff) { f.Passback = 1441 })
	wrong(api.ErrTariff, func(f *api.Tariff) { f.Delay = -1 })
	return l
}

// notOutages are such as may not be.
func notOutages() []api.Outage {
	return []api.Outage{
		{}, {Station: 0, From: 500, To: 560}, {Station: -1, From: 500, To: 560}, {Station: 65536, From: 500, To: 560},
		{Station: 1, From: 5, To: 5}, {Station: 1, From: 6, To: 5}, {Station: 1, From: -1, To: 5}, {Station: 1, From: 5, To: maxTime + 1},
		{Station: 1, From: math.MinInt, To: math.MaxInt}, {Station: 1, From: math.MaxInt, To: math.MinInt},
	}
}

// manyOutages are so many that may be.
func manyOutages(n int) []api.Outage {
	l := make([]api.Outage, n)
	for i := range l {
		l[i] = api.Outage{Station: 1 + i%3, From: 480 + i, To: 481 + 2*i}
	}
	return l
}

// wrongOutages are lists that may not be: with a wrong one in the first, a middle and the last place, and too many.
func wrongOutages() [][]api.Outage {
	l := [][]api.Outage{manyOutages(101), manyOutages(1000), make([]api.Outage, 101)}
	for _, wrong := range notOutages() {
		for _, n := range []int{1, 3, 100} {
			for _, i := range []int{0, n / 2, n - 1} {
				l = append(l, manyOutages(n))
				l[len(l)-1][i] = wrong
			}
		}
	}
	return l
}

// notTaps are such as may not be, wherever they stand.
func notTaps() []api.Tap {
	var l []api.Tap
	wrong := func(change func(x *api.Tap)) {
		l = append(l, api.Tap{Device: 1, Counter: 5, Token: token, Kind: in, Place: 1, Time: 500})
		change(&l[len(l)-1])
	}
	for _, n := range []int{0, -1, 65536, math.MinInt, math.MaxInt} {
		wrong(func(x *api.Tap) { x.Device = n })
		wrong(func(x *api.Tap) { x.Place = n })
	}
	for _, n := range []int{0, -1, 1 << 32, math.MinInt, math.MaxInt} {
		wrong(func(x *api.Tap) { x.Counter = n })
	}
	for _, n := range []int{0, 4, -1, 257, 1<<32 + 1, math.MinInt, math.MaxInt} {
		wrong(func(x *api.Tap) { x.Kind = n })
	}
	for _, n := range []int{-1, maxTime + 1, math.MinInt, math.MaxInt} {
		wrong(func(x *api.Tap) { x.Time = n })
	}
	for _, s := range []string{"", "abcdefg", "abcdefghi"} {
		wrong(func(x *api.Tap) { x.Token = s })
	}
	wrong(func(x *api.Tap) { x.Kind, x.Place = bus, 1001 })
	return append(l, api.Tap{})
}

type wrongTaps struct {
	taps []api.Tap
	want api.Errno
}

// wrongRows are taps that may not be, one behind another, by each of chapter 17's looks, in the first, a middle and the last place.
func wrongRows() []wrongTaps {
	l := []wrongTaps{{many(2001, 1, 480, bus, 9), api.ErrLong}, {many(4000, 0, 480, bus, 9), api.ErrLong}, {make([]api.Tap, 2001), api.ErrLong}, {make([]api.Tap, 2000), api.ErrRecord}}
	for _, n := range []int{1, 2, 5, 60} {
		for _, i := range []int{0, n / 2, n - 1} {
			for _, wrong := range notTaps() {
				row := many(n, 500, 480, in, 1)
				row[i] = wrong
				if i > 0 && wrong.Time == 500 {
					row[i].Time = row[i-1].Time + 1
				}
				l = append(l, wrongTaps{row, api.ErrRecord})
			}
			for _, change := range []func(x *api.Tap, ahead api.Tap){
				func(x *api.Tap, ahead api.Tap) { x.Token = "ABCDEFGH" },
				func(x *api.Tap, ahead api.Tap) { x.Time = ahead.Time - 1 },
				func(x *api.Tap, ahead api.Tap) { x.Time, x.Counter = ahead.Time, ahead.Counter-1 },
				func(x *api.Tap, ahead api.Tap) { *x = ahead },
				func(x *api.Tap, ahead api.Tap) { *x = ahead; x.Kind, x.Place = bus, 7 },
			} {
				row := many(n, 500, 480, in, 1)
				for k := range row {
					row[k].Counter += 10
				}
				if i > 0 {
					change(&row[i], row[i-1])
					l = append(l, wrongTaps{row, api.ErrTaps})
				}
			}
		}
	}
	return l
}

// P21.1, P21.2: each error of the tariff, whatever the outages and the taps, also without any.
func TestWrongTariffs(t *testing.T) {
	for _, x := range wrongTariffs() {
		for _, l := range [][]api.Outage{nil, manyOutages(3), {{}}, manyOutages(101)} {
			for _, its := range [][]api.Tap{nil, taps("0 Mon 08:00 in 1, 0 Mon 08:30 out 2"), {{}}, taps("0 Mon 08:00 in 1, 0 Mon 07:59 out 2"), many(2001, 1, 480, bus, 9)} {
				fails(t, x.tariff, l, its, x.want)
			}
		}
	}
}

// P21.1, P21.2: each error of the outages by a tariff that may be, whatever the taps, also without any.
func TestWrongOutages(t *testing.T) {
	for _, f := range []api.Tariff{ofTheWhole(), withoutStations()} {
		for _, l := range wrongOutages() {
			for _, its := range [][]api.Tap{nil, taps("0 Mon 08:00 in 1, 0 Mon 08:30 out 2"), taps("0 Mon 08:00 bus 9"), {{}}, taps("0 Mon 08:00 in 1, 0 Mon 07:59 out 2"), many(2001, 1, 480, bus, 9)} {
				fails(t, f, l, its, api.ErrRecord)
			}
		}
	}
}

// P21.1, P21.2: each error of the taps by a tariff and outages that may be.
func TestWrongTaps(t *testing.T) {
	for _, x := range wrongRows() {
		for _, l := range [][]api.Outage{nil, manyOutages(3)} {
			fails(t, ofTheWhole(), l, x.taps, x.want)
			fails(t, withoutStations(), l, x.taps, x.want)
		}
	}
}

// P21.1: of wrong taps the first one is told, and that there are too many ahead of all.
func TestFirstOfWrongTaps(t *testing.T) {
	f := ofTheWhole()
	early := taps("0 Mon 08:00 in 1, 0 Mon 07:59 out 2, 0 Mon 09:00 in 1")
	fails(t, f, nil, early, api.ErrTaps)
	fails(t, f, nil, append(slices.Clone(early), api.Tap{}), api.ErrTaps)
	fails(t, f, nil, append([]api.Tap{{}}, early...), api.ErrRecord)
	early[1].Kind = 4
	fails(t, f, nil, early, api.ErrRecord)
	for _, n := range []int{1998, 1999, 2000} {
		fails(t, f, nil, append(many(n, 1, 480, bus, 9), early...), api.ErrLong)
	}
	fails(t, f, nil, append(many(1997, 1, 480, bus, 9), early...), api.ErrTaps)
	if api.MaxTaps != 2000 || api.MaxOutages != 100 {
		t.Error("MaxTaps, MaxOutages:", api.MaxTaps, api.MaxOutages)
	}
}

// P21.1: as many taps, and as many outages, as there may be, and one more.
func TestHowMany(t *testing.T) {
	f := ofTheWhole()
	for _, n := range []int{1, 2, 1999, 2000} {
		areBills(t, f, manyOutages(100), many(n, 0, 480, bus, 9), owed("0 175"))
	}
	for _, n := range []int{2001, 2002, 4000, 65536 + 5} {
		fails(t, f, manyOutages(100), many(n, 0, 480, bus, 9), api.ErrLong)
		fails(t, f, manyOutages(101), many(n, 0, 480, bus, 9), api.ErrRecord)
	}
}

// P21.1: any tariff, outages and taps, spoilt in any way.
func TestAnyWrong(t *testing.T) {
	rnd := rand.New(rand.NewSource(211))
	told := map[api.Errno]int{}
	for range 3000 {
		f := someTariff(rnd)
		its := someTaps(rnd, f, 20)
		l := someOutages(rnd, its, 4)
		if rnd.Intn(4) == 0 {
			f = wrongTariffs()[rnd.Intn(len(wrongTariffs()))].tariff
		}
		if rnd.Intn(4) == 0 {
			l = append(l, notOutages()[rnd.Intn(len(notOutages()))])
		}
		for len(its) > 0 && rnd.Intn(3) == 0 {
			i, k := rnd.Intn(len(its)), rnd.Intn(len(its))
			if rnd.Intn(2) == 0 {
				its[i] = notTaps()[rnd.Intn(len(notTaps()))]
			} else {
				its[i], its[k] = its[k], its[i]
			}
		}
		_, e := bills(t, f, l, its)
		told[e]++
	}
	if told[api.OK] < 500 || told[api.ErrTariff] < 100 || told[api.ErrMoney] < 50 || told[api.ErrRate] < 50 || told[api.ErrRecord] < 300 || told[api.ErrTaps] < 100 {
		t.Error("so many of each error:", told)
	}
}
