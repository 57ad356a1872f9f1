package settle_test

import (
	"math"
	"slices"
	"testing"

	"farebox/api"
	"farebox/record"
)

// called is a call of Run, of the run that comes next where nothing else is said.
type called struct {
	*both
	run     int
	tariff  api.Tariff
	outages []api.Outage
}

func (c *called) fails(why string, want api.Errno) {
	c.t.Helper()
	was := c.d.Edits()
	got, delta, e := c.both.run(c.run, c.tariff, c.outages, yes, no, yes)
	if e != want || len(got) != 0 || !sameDelta(delta, api.Delta{}) || !slices.Equal(c.d.Edits(), was) {
		c.t.Errorf("%s: %v, %v, %d, not %d", why, got, delta, e, want)
	}
}

// fault is one reason for which a run is refused.
type fault struct {
	name string
	want api.Errno
	make func(c *called)
}

// faults are all reasons, in the order in which the chapter tells them: those ahead win.
func faults() []fault {
	return []fault{
		{"no last run", api.ErrSettle, func(c *called) { c.put("n", "\x00\x00\x03") }},
		{"no list", api.ErrSettle, func(c *called) { c.put("r", "\x00") }},
		{"no account", api.ErrSettle, func(c *called) { c.put("a"+b, a) }},
		{"no tap", api.ErrSettle, func(c *called) { c.put("t"+b, "") }},
		{"no next run", api.ErrSettled, func(c *called) { c.run++ }},
		{"the last version", api.ErrRiskVersion, func(c *called) { c.list(math.MaxInt, b) }},
		{"no tariff", api.ErrRate, func(c *called) { c.tariff.Off = 2 }},
		{"no outages", api.ErrRecord, func(c *called) { c.outages = outages("1 from 0 Mon 08:00 to 0 Mon 08:00") }},
		{"too many tokens", api.ErrLong, func(c *called) {
			for _, token := range numbered(0, 998) {
				c.account(token, 0, 0)
			}
		}},
		{"too many taps", api.ErrLong, func(c *called) { c.tap(many(b, 2001)...) }},
	}
}

// right is a call that is not refused, behind some runs.
func right(t *testing.T) *called {
	t.Helper()
	x := opened(t).tap(taps(a, journey)...).tap(taps(b, journey)...)
	x.run(1, ofTheWhole(), nil, yes)
	x.run(2, ofTheWhole(), nil)
	return &called{x.account(c, 40, 20), 3, ofTheWhole(), nil}
}

// P23.2: each error alone, each with each of the next ones behind it, and with all of them.
func TestFirstError(t *testing.T) {
	all := faults()
	for i, first := range all {
		c := right(t)
		first.make(c)
		c.fails(first.name, first.want)
		for _, second := range all[i+1:] {
			c := right(t)
			second.make(c)
			first.make(c)
			c.fails(first.name+" and "+second.name, first.want)
		}
		c = right(t)
		for _, other := range slices.Backward(all[i:]) {
			other.make(c)
		}
		c.fails(first.name+" and all behind it", first.want)
	}
	c := right(t)
	if _, _, e := c.both.run(c.run, c.tariff, c.outages); e != api.OK {
		t.Error(e)
	}
}

// P23.2: what stands under e and d is not looked at, nor are other keys.
func TestNotLookedAt(t *testing.T) {
	for _, key := range []string{"e", "e" + be(1, 4), "e" + be(3, 4), "e" + be(3, 4) + be(7, 4), "e" + be(1, 4) + be(0, 4), "d", "d" + be(1, 8), "d" + be(3, 8), "d" + be(4, 8), "x", "q", "s", "u", "b", "m", "o", "\xff"} {
		c := right(t)
		c.put(key, "no record")
		if _, _, e := c.both.run(c.run, c.tariff, c.outages); e != api.OK {
			t.Errorf("%q: %d", key, e)
		}
		if key != "e"+be(1, 4) && key != "d"+be(3, 8) && c.slow[key] != "no record" {
			t.Errorf("%q became %q", key, c.slow[key])
		}
	}
}

// P23.2: runs other than the next one, and those beyond the last that there may be.
func TestSettled(t *testing.T) {
	f := ofTheWhole()
	for _, last := range []int{0, 1, 2, 300, maxRuns - 1, maxRuns} {
		x := opened(t).tap(taps(a, journey)...)
		if last > 0 {
			x.last(last)
		}
		for _, run := range []int{math.MinInt, math.MinInt + 1, -maxRuns, -1, 0, 1, 2, 3, last - 2, last - 1, last, last + 1, last + 2, last + 256, last + 1<<32, -last, -last - 1, maxRuns - 1, maxRuns, maxRuns + 1, maxRuns + 2, 1 << 32, 1<<32 + 1, 1 << 62, math.MaxInt} {
			if run != last+1 || run > maxRuns {
				x.runFails(run, f, nil, api.ErrSettled)
			}
		}
		if last < maxRuns {
			x.runIs(last+1, f, "", nil, a+" 300", []string{a}, nil)
		}
	}
}

// P23.2: a list of the last version that there is, and of those ahead of it.
func TestLastVersion(t *testing.T) {
	for _, version := range []int{math.MaxInt, math.MaxInt - 1, math.MaxInt - 2, 1 << 62} {
		x := opened(t).list(version).tap(taps(a, journey)...)
		if version == math.MaxInt {
			x.runFails(1, ofTheWhole(), nil, api.ErrRiskVersion)
		} else {
			x.runIs(1, ofTheWhole(), "", nil, a+" 300", []string{a}, nil)
		}
	}
}

// P23.2: tariffs that may not be, by each of their errors, also where there is no token.
func TestWrongTariffs(t *testing.T) {
	for _, row := range []struct {
		want   api.Errno
		change func(f *api.Tariff)
	}{
		{api.ErrTariff, func(f *api.Tariff) { *f = api.Tariff{} }},
		{api.ErrTariff, func(f *api.Tariff) { f.Stations = make([]api.Station, 201) }},
		{api.ErrTariff, func(f *api.Tariff) { f.Stations[1].Id = 1 }},
		{api.ErrTariff, func(f *api.Tariff) { f.Spans = f.Spans[:2] }},
		{api.ErrMoney, func(f *api.Tariff) { f.Spans[1].Single = maxFare + 1 }},
		{api.ErrMoney, func(f *api.Tariff) { f.Bus = -1 }},
		{api.ErrMoney, func(f *api.Tariff) { f.Threshold = -1 }},
		{api.ErrMoney, func(f *api.Tariff) { f.Threshold = maxFare + 1 }},
		{api.ErrTariff, func(f *api.Tariff) { f.Spans[1].Daily = 499 }},
		{api.ErrTariff, func(f *api.Tariff) { f.Peak[0].To = 390 }},
		{api.ErrRate, func(f *api.Tariff) { f.Off = math.NaN() }},
		{api.ErrRate, func(f *api.Tariff) { f.Off = math.Copysign(0, -1) }},
		{api.ErrTariff, func(f *api.Tariff) { f.Longest = 0 }},
		{api.ErrTariff, func(f *api.Tariff) { f.Delay = 1441 }},
	} {
		c := right(t)
		c.tariff = with(row.change)
		c.fails("tariff", row.want)
		c.outages = make([]api.Outage, 1)
		c.fails("tariff and outages", row.want)
		opened(t).runFails(1, c.tariff, nil, row.want)
	}
}

// P23.2: outages that may not be, also where there is no token.
func TestWrongOutages(t *testing.T) {
	one := outages("1 from 0 Mon 08:00 to 0 Mon 08:20")[0]
	wrong := [][]api.Outage{make([]api.Outage, 1), slices.Repeat([]api.Outage{one}, 101), {one, {Station: 1, From: 5, To: 5}, one}, {one, one, {Station: 65536, From: 5, To: 6}}, {{Station: 1, From: 5, To: maxTime + 1}}}
	for _, l := range wrong {
		c := right(t)
		c.outages = l
		c.fails("outages", api.ErrRecord)
		opened(t).runFails(1, ofTheWhole(), l, api.ErrRecord)
	}
	x := opened(t).tap(taps(a, "0 Mon 08:00 in 1")...)
	if got, _, e := x.run(1, ofTheWhole(), slices.Repeat([]api.Outage{one}, 100)); e != api.OK || len(got) != 0 {
		t.Error(got, e)
	}
}

// P23.2: as many tokens as may be, and one more: of taps, of accounts, of both.
func TestTooManyTokens(t *testing.T) {
	tokens := numbered(0, 1001)
	for _, part := range []int{0, 1, 500, 1000, 1001} {
		x := opened(t)
		for _, token := range tokens[:part] {
			x.account(token, 0, 0)
		}
		for _, token := range tokens[part:] {
			x.tap(taps(token, "0 Mon 08:00 in 9")...)
		}
		x.runFails(1, ofTheWhole(), nil, api.ErrLong)
		x.runFails(2, ofTheWhole(), nil, api.ErrSettled)
		if part == 0 {
			x.remove("t" + tokens[0] + be(480, 4) + be(1, 2) + be(1, 4))
		} else {
			x.remove("a" + tokens[0])
		}
		if got, _, e := x.run(1, ofTheWhole(), nil); e != api.OK || len(got) != 0 {
			t.Error(part, len(got), e)
		}
	}
}

// P23.2: taps that charge.Charge refuses, of the first, a middle and the last token; as many as may be are charged.
func TestTooManyTaps(t *testing.T) {
	f := with(func(f *api.Tariff) { f.Threshold = maxFare })
	for _, token := range []string{a, b, c} {
		x := opened(t).tap(taps(a, journey)...).tap(taps(b, journey)...).tap(taps(c, journey)...)
		l := many(token, 2001)
		x.tap(l[3:]...) // with the two of the journey 2000
		y := x.clone().tap(l[2])
		y.runFails(1, f, nil, api.ErrLong)
		y.account(z, 5, 0).list(7, a).runFails(1, f, nil, api.ErrLong)
		if got, _, e := x.run(1, f, nil); e != api.OK || len(got) != 3 {
			t.Error(token, len(got), e)
		}
	}
}

// P23.2, P23.3: an error of one tap among many, wherever it stands, leaves all as it was.
func TestLateError(t *testing.T) {
	for _, token := range []string{"00000000", "00000500", "00000999"} {
		x := opened(t)
		for _, other := range numbered(0, 1000) {
			x.tap(taps(other, journey)...)
		}
		x.run(1, ofTheWhole(), nil, yes, no, yes)
		one := taps(token, journey)[0]
		y := x.clone().put(slowTapKey(one), bytesOf(record.Tap(taps(token, journey)[1])))
		y.runFails(2, ofTheWhole(), nil, api.ErrSettle)
		x.tap(many(token, 2001)...).runFails(2, ofTheWhole(), nil, api.ErrLong)
	}
}
