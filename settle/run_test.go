package settle_test

import (
	"maps"
	"math"
	"slices"
	"testing"

	"farebox/api"
	"farebox/settle"
)

const journey = "0 Mon 08:00 in 1, 0 Mon 08:30 out 2" // 300 in the peak

// P23.1, P23.2: the chapter's examples.
func TestExamples(t *testing.T) {
	x := opened(t).tap(taps(a, journey)...)
	f := ofTheWhole()
	x.runIs(1, f, "", nil, a+" 300", []string{a}, nil)
	x.runFails(1, f, nil, api.ErrSettled)
	x.runFails(3, f, nil, api.ErrSettled)
	x.runIs(2, f, "", []bool{yes}, a+" 300 paid", nil, []string{a})
	x.runIs(3, f, "1 from 0 Mon 08:00 to 0 Mon 08:20", nil, a+" -300, "+a+" -300 paid", nil, nil)
	if l, e := settle.Ledger(x.d, 2); e != api.OK || !slices.Equal(l, entries(2, a+" 300 paid")) {
		t.Error(l, e)
	}
	x.accountsAre(a + " 0 0")
	if n, e := settle.Last(x.d); n != 3 || e != api.OK {
		t.Error(n, e)
	}
	if delta, e := settle.Delta(x.d, 4); e != api.ErrRiskVersion || !sameDelta(delta, api.Delta{}) {
		t.Error(delta, e)
	}
	if delta, e := settle.Delta(x.d, 1); e != api.OK || !sameDelta(delta, api.Delta{Version: 1, Add: []string{a}}) {
		t.Error(delta, e)
	}
	x.listIs(3)
}

// P23.2: what stands in the draft behind a run, byte by byte, under every key; other keys stay.
func TestKeptBytes(t *testing.T) {
	x := opened(t).tap(taps(a, journey)...).tap(taps(b, "0 Mon 08:00 bus 9")...)
	others := kept{"x\x00\x01": "", "q\x00": "item", "b": "5", "s": "", "u": "u", "m": "9", "o": "", "\x00": "", "\xff\xff": "\xff"}
	for key, value := range others {
		x.put(key, value)
	}
	want := maps.Clone(x.slow)
	x.runIs(1, ofTheWhole(), "", []bool{no, yes}, a+" 300, "+b+" 175, "+b+" 175 paid", []string{a}, nil)
	seven := "\x00\x00\x00\x00\x00\x00\x00"
	want["a"+a] = a + seven[:6] + "\x01\x2c" + seven + "\x00"
	want["a"+b] = b + seven + "\xaf" + seven + "\xaf"
	run := "\x00\x00\x00\x01"
	want["e"+run+"\x00\x00\x00\x00"] = run + a + seven[:6] + "\x01\x2c" + "\x00"
	want["e"+run+"\x00\x00\x00\x01"] = run + b + seven + "\xaf" + "\x00"
	want["e"+run+"\x00\x00\x00\x02"] = run + b + seven + "\xaf" + "\x01"
	want["d"+seven+"\x01"] = seven + "\x01" + "\x00\x01" + a + "\x00\x00"
	want["r"] = seven + "\x01" + "\x00\x01" + a + "\x00\x00"
	want["n"] = run
	if got := entriesOf(x.d); !maps.Equal(got, want) {
		t.Errorf("%q, not %q", got, want)
	}
	x.runIs(2, ofTheWhole(), "1 from 0 Mon 08:00 to 0 Mon 08:20", nil, a+" -300", nil, []string{a})
	run = "\x00\x00\x00\x02"
	want["a"+a] = a + seven + "\x00" + seven + "\x00"
	want["e"+run+"\x00\x00\x00\x00"] = run + a + "\xff\xff\xff\xff\xff\xff\xfe\xd4" + "\x00"
	want["d"+seven+"\x02"] = seven + "\x02" + "\x00\x00" + "\x00\x01" + a
	want["r"] = seven + "\x02" + "\x00\x00\x00\x00"
	want["n"] = run
	if got := entriesOf(x.d); !maps.Equal(got, want) {
		t.Errorf("%q, not %q", got, want)
	}
}

// P23.2: runs of no tokens: nothing but the delta, the list and the last run comes about.
func TestNoTokens(t *testing.T) {
	x := opened(t)
	for run := 1; run <= 5; run++ {
		x.runIs(run, ofTheWhole(), "", []bool{yes, no}, "", nil, nil)
		x.listIs(run)
	}
	if n := x.d.Len(); n != 7 {
		t.Error(n, "entries")
	}
	empty := with(func(f *api.Tariff) { f.Stations, f.Spans = nil, f.Spans[:1] })
	x.runIs(6, empty, "", nil, "", nil, nil)
	x.put("x", "").put("q", "").put("b", "").runIs(7, empty, "", nil, "", nil, nil)
}

// P23.2: a charge that is more, less, as it was, and one of nothing, with nothing paid, a part and all of it.
func TestChanges(t *testing.T) {
	for _, row := range []struct {
		charged, paid int
		answer        bool
		want, then    string
	}{
		{0, 0, no, a + " 300", a + " 300 0"},
		{0, 0, yes, a + " 300, " + a + " 300 paid", a + " 300 300"},
		{299, 0, no, a + " 1", a + " 300 0"},
		{299, 299, no, a + " 1", a + " 300 299"},
		{299, 299, yes, a + " 1, " + a + " 1 paid", a + " 300 300"},
		{200, 50, yes, a + " 100, " + a + " 250 paid", a + " 300 300"},
		{300, 0, no, "", a + " 300 0"},
		{300, 0, yes, a + " 300 paid", a + " 300 300"},
		{300, 299, yes, a + " 1 paid", a + " 300 300"},
		{300, 300, no, "", a + " 300 300"},
		{300, 300, yes, "", a + " 300 300"},
		{301, 0, no, a + " -1", a + " 300 0"},
		{301, 299, yes, a + " -1, " + a + " 1 paid", a + " 300 300"},
		{301, 300, yes, a + " -1", a + " 300 300"},
		{301, 301, yes, a + " -1, " + a + " -1 paid", a + " 300 300"},
		{1 << 53, 1 << 53, yes, a + " -9007199254740692, " + a + " -9007199254740692 paid", a + " 300 300"},
		{1 << 53, 0, no, a + " -9007199254740692", a + " 300 0"},
	} {
		x := opened(t).tap(taps(a, journey)...).account(a, row.charged, row.paid)
		f := with(func(f *api.Tariff) { f.Threshold = maxFare })
		x.runIs(1, f, "", []bool{row.answer}, row.want, nil, nil)
		x.accountsAre(row.then)
	}
}

// P23.2: an account without taps is charged nothing; a token that costs nothing has an account.
func TestNothingOwed(t *testing.T) {
	x := opened(t).account(a, 500, 200).account(b, 0, 0).account(c, 7, 0).tap(taps(z, "0 Mon 08:00 in 9")...)
	x.runIs(1, ofTheWhole(), "", []bool{yes, yes}, a+" -500, "+a+" -200 paid, "+c+" -7", nil, nil)
	x.accountsAre(a + " 0 0, " + b + " 0 0, " + c + " 0 0, " + z + " 0 0")
	x.runIs(2, ofTheWhole(), "", []bool{yes, yes}, "", nil, nil)
}

// P23.2: who is asked, and by which answer: only debts are asked for, in the order of tokens; who answers no more says no.
func TestAnswers(t *testing.T) {
	f := with(func(f *api.Tariff) { f.Threshold = maxFare })
	for _, row := range []struct {
		answers []bool
		want    string
	}{
		{nil, a + " 300, " + b + " 300, " + c + " 300"},
		{[]bool{}, a + " 300, " + b + " 300, " + c + " 300"},
		{[]bool{no, no, no, no}, a + " 300, " + b + " 300, " + c + " 300"},
		{[]bool{yes}, a + " 300, " + a + " 300 paid, " + b + " 300, " + c + " 300"},
		{[]bool{no, yes}, a + " 300, " + b + " 300, " + b + " 300 paid, " + c + " 300"},
		{[]bool{no, no, yes}, a + " 300, " + b + " 300, " + c + " 300, " + c + " 300 paid"},
		{[]bool{yes, no, yes}, a + " 300, " + a + " 300 paid, " + b + " 300, " + c + " 300, " + c + " 300 paid"},
		{[]bool{yes, yes, yes, yes, no}, a + " 300, " + a + " 300 paid, " + b + " 300, " + b + " 300 paid, " + c + " 300, " + c + " 300 paid"},
		{[]bool{no, no, no, yes}, a + " 300, " + b + " 300, " + c + " 300"},
	} {
		x := opened(t)
		for _, token := range []string{c, a, b} {
			x.tap(taps(token, journey)...)
		}
		x.runIs(1, f, "", row.answers, row.want, nil, nil)
	}
	x := opened(t).account(a, 300, 300).tap(taps(a, journey)...).tap(taps(b, "0 Mon 08:00 in 9")...).account("bbbbbbbc", 50, 50).tap(taps(c, journey)...)
	x.runIs(1, f, "", []bool{yes}, "bbbbbbbc -50, bbbbbbbc -50 paid, "+c+" 300, "+c+" 300 paid", nil, nil)
}

// P23.2: debts below the Threshold, at it and above, as they stand behind what was paid.
func TestThreshold(t *testing.T) {
	for _, row := range []struct {
		threshold int
		answer    bool
		add       []string
	}{
		{0, no, []string{a}}, {299, no, []string{a}}, {300, no, nil}, {301, no, nil}, {maxFare, no, nil}, {0, yes, nil}, {299, yes, nil},
	} {
		x := opened(t).tap(taps(a, journey)...)
		x.runIs(1, with(func(f *api.Tariff) { f.Threshold = row.threshold }), "", []bool{row.answer}, x.paidOr(row.answer), row.add, nil)
		x.listIs(1, row.add...)
	}
	x := opened(t).tap(taps(a, "0 Mon 08:00 in 9")...)
	x.runIs(1, with(func(f *api.Tariff) { f.Threshold = 0 }), "", nil, "", nil, nil)
}

// paidOr are the entries of one journey, paid or not.
func (x *both) paidOr(is bool) string {
	if is {
		return a + " 300, " + a + " 300 paid"
	}
	return a + " 300"
}

// P23.2: tokens come onto the list, stay and leave it; the Threshold is that of the run's own tariff.
func TestList(t *testing.T) {
	x := opened(t).tap(taps(a, journey)...).tap(taps(b, "0 Mon 08:00 bus 9")...).tap(taps(c, journey)...)
	f := ofTheWhole()
	x.runIs(1, with(func(f *api.Tariff) { f.Threshold = 200 }), "", nil, a+" 300, "+b+" 175, "+c+" 300", []string{a, c}, nil)
	x.runIs(2, f, "", nil, "", []string{b}, nil)
	x.listIs(2, a, b, c)
	x.runIs(3, f, "", []bool{yes}, a+" 300 paid", nil, []string{a})
	x.tap(taps(a, journey+", 0 Mon 09:00 bus 9")[2])
	x.runIs(4, f, "", []bool{no, yes, no}, a+" 175, "+b+" 175 paid", []string{a}, []string{b})
	x.listIs(4, a, c)
	x.runIs(5, with(func(f *api.Tariff) { f.Threshold = 299 }), "", nil, "", nil, []string{a})
	x.runIs(6, with(func(f *api.Tariff) { f.Threshold = 300 }), "", nil, "", nil, []string{c})
	x.runIs(7, f, "2 from 0 Mon 08:00 to 0 Mon 08:31", nil, a+" -300, "+a+" -125 paid, "+c+" -300", nil, nil)
	x.runIs(8, f, "", nil, a+" 300, "+c+" 300", []string{a, c}, nil)
}

// P23.2: a list that others laid is gone on with, by its version and its tokens, also such as have no account.
func TestListOfOthers(t *testing.T) {
	x := opened(t).list(41, b, c).tap(taps(a, journey)...).tap(taps(b, journey)...)
	x.runIs(1, ofTheWhole(), "", nil, a+" 300, "+b+" 300", []string{a}, []string{c})
	x.listIs(42, a, b)
	if _, e := settle.Delta(x.d, 42); e != api.OK {
		t.Error(e)
	}
	x = opened(t).list(math.MaxInt-1, numbered(0, 1000)...).tap(taps(a, journey)...)
	x.runIs(1, ofTheWhole(), "", nil, a+" 300", []string{a}, numbered(0, 1000))
	x.listIs(math.MaxInt, a)
	x.runFails(2, ofTheWhole(), nil, api.ErrRiskVersion)
}

// P23.2: a run goes on from the last one, whichever that was, up to the last one that there may be.
func TestLateRuns(t *testing.T) {
	for _, last := range []int{1, 255, 256, 65535, 1 << 24, maxRuns - 2, maxRuns - 1} {
		x := opened(t).last(last).tap(taps(a, journey)...)
		x.runIs(last+1, ofTheWhole(), "", []bool{yes}, a+" 300, "+a+" 300 paid", nil, nil)
	}
}

// P23.2: what others laid under the keys of the run's entries and of its delta is not looked at; what the run lays stands there then.
func TestLaidOver(t *testing.T) {
	x := opened(t).tap(taps(a, journey)...).entry(0, api.Entry{Run: 1, Token: z, Amount: 5}).put("d"+be(1, 8), "")
	x.runIs(1, ofTheWhole(), "", nil, a+" 300", []string{a}, nil)
	if l, e := settle.Ledger(x.d, 1); e != api.OK || !slices.Equal(l, entries(1, a+" 300")) {
		t.Error(l, e)
	}
	x = opened(t).tap(taps(a, journey)...).entry(5, api.Entry{Run: 1, Token: z, Amount: 5})
	x.runIs(1, ofTheWhole(), "", nil, a+" 300", []string{a}, nil)
	if l, e := settle.Ledger(x.d, 1); e != api.ErrSettle || len(l) != 0 {
		t.Error(l, e)
	}
}

// P23.2: as many tokens as may be, of taps and of accounts, all listed and then none; each pays, or is paid back.
func TestManyTokens(t *testing.T) {
	x := opened(t)
	tokens := numbered(0, 1000)
	for i, token := range tokens {
		if i%2 == 0 {
			x.tap(taps(token, journey)...)
		} else {
			x.account(token, 40, 40)
		}
	}
	f := ofTheWhole()
	got, delta, e := x.run(1, f, nil)
	if e != api.OK || len(got) != 1500 || len(delta.Add) != 500 {
		t.Fatal(len(got), len(delta.Add), e)
	}
	for i, token := range tokens {
		if i%2 == 1 {
			x.tap(taps(token, journey)...)
		}
	}
	if got, delta, e := x.run(2, f, nil); e != api.OK || len(got) != 500 || len(delta.Add) != 500 {
		t.Fatal(len(got), len(delta.Add), e)
	}
	x.listIs(2, tokens...)
	answers := slices.Repeat([]bool{yes}, 1000)
	if got, delta, e := x.run(3, f, nil, answers...); e != api.OK || len(got) != 1000 || !slices.Equal(delta.Gone, tokens) {
		t.Fatal(len(got), len(delta.Gone), e)
	}
	if got, _, e := x.run(4, f, outages("1 from 0 Mon 08:00 to 0 Mon 08:20")); e != api.OK || len(got) != 2000 {
		t.Fatal(len(got), e)
	}
	if l, e := settle.Ledger(x.d, 4); e != api.OK || len(l) != 2000 || l[1999] != entries(4, "00000999 -300 paid")[0] {
		t.Error(len(l), e)
	}
	x.lookWhole()
}

// P23.2: a token with as many taps as may be; taps are charged together, whichever run they came ahead of.
func TestManyTaps(t *testing.T) {
	x := opened(t).tap(many(b, 1999)...).tap(taps(a, "0 Mon 08:00 in 1")...)
	f := with(func(f *api.Tariff) { f.BusWeekly = maxFare })
	x.runIs(1, f, "", []bool{no, yes}, a+" 900, "+b+" 349825, "+b+" 349825 paid", []string{a}, nil)
	x.tap(many(b, 2000)...).tap(taps(a, journey)[1])
	x.runIs(2, f, "", nil, a+" -600, "+b+" 175", []string{b}, nil)
}
