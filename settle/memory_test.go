package settle_test

import (
	"maps"
	"math/rand"
	"slices"
	"strings"
	"sync"
	"testing"

	"farebox/api"
	"farebox/settle"
	"farebox/store"
)

// withRoom is a list with spare room that is filled by a mark.
func withRoom[T any](l []T, mark T) []T {
	return append(slices.Clone(l), mark, mark, mark)[:len(l)]
}

// watched is a list that was handed in, and what it was, as far as its memory goes.
type watched[T comparable] struct{ list, was []T }

func watch[T comparable](l []T) watched[T] { return watched[T]{l, slices.Clone(l[:cap(l)])} }

func (w watched[T]) isAsItWas() bool { return slices.Equal(w.list[:cap(w.list)], w.was) }

// fill puts a mark everywhere, into the spare room too.
func fill[T any](l []T, mark T) {
	l = l[:cap(l)]
	for i := range l {
		l[i] = mark
	}
}

const (
	markToken  = "markmark"
	otherToken = "otherone"
)

var (
	markOutage  = api.Outage{Station: 77, From: 77, To: 78}
	markStation = api.Station{Id: 77, Zone: 1, Group: 77}
	markSpan    = api.Span{From: 7, To: 7, Single: 77, Daily: 77, Weekly: 77}
	markBand    = api.Band{From: 77, To: 78}
	markEntry   = api.Entry{Run: 77, Token: markToken, Amount: 77}
	otherEntry  = api.Entry{Run: 88, Token: otherToken, Amount: 88}
)

// handed is what Run is handed in beside a draft and a number.
type handed struct {
	tariff  api.Tariff
	outages []api.Outage
	answers []bool
}

// roomy is the same with spare room behind each list.
func (h handed) roomy() handed {
	f := h.tariff
	f.Stations, f.Spans, f.Peak = withRoom(f.Stations, markStation), withRoom(f.Spans, markSpan), withRoom(f.Peak, markBand)
	return handed{f, withRoom(h.outages, markOutage), withRoom(h.answers, yes)}
}

// watched asks, from now on, whether all of it is as it was.
func (h handed) watched() func() bool {
	stations, spans, peak := watch(h.tariff.Stations), watch(h.tariff.Spans), watch(h.tariff.Peak)
	outages, answers := watch(h.outages), watch(h.answers)
	return func() bool {
		return stations.isAsItWas() && spans.isAsItWas() && peak.isAsItWas() && outages.isAsItWas() && answers.isAsItWas()
	}
}

// overwrite puts marks over all of it.
func (h handed) overwrite() {
	fill(h.tariff.Stations, markStation)
	fill(h.tariff.Spans, markSpan)
	fill(h.tariff.Peak, markBand)
	fill(h.outages, markOutage)
	fill(h.answers, yes)
}

// overwriteAnswers puts marks over what Run answered.
func overwriteAnswers(l []api.Entry, delta api.Delta, entry api.Entry, token string) {
	fill(l, entry)
	fill(delta.Add, token)
	fill(delta.Gone, token)
}

// memory holds P23.3 of a run: of what is handed in, of what is answered, and of the draft.
func memory(x *both, run int, h handed) {
	x.t.Helper()
	y := x.clone()
	want, next, wantE := x.slow.run(run, h.tariff, h.outages, slices.Clone(h.answers))
	isAsItWas := h.watched()
	got, delta, e := settle.Run(x.d, run, h.tariff, h.outages, h.answers)
	again, deltaAgain, _ := settle.Run(y.d, run, h.tariff, h.outages, h.answers)
	told := func(l []api.Entry, d api.Delta) bool {
		return slices.Equal(l, want.entries) && sameDelta(d, want.delta)
	}
	if e != wantE || !told(got, delta) || !told(again, deltaAgain) {
		x.t.Fatalf("%v, %v, %d, not %v, %d", got, delta, e, want, wantE)
	}
	if !isAsItWas() {
		x.t.Fatal("what was handed in was changed")
	}
	overwriteAnswers(got, delta, markEntry, markToken)
	if !told(again, deltaAgain) || !isAsItWas() || !maps.Equal(entriesOf(x.d), next) || !maps.Equal(entriesOf(y.d), next) {
		x.t.Fatal("an answer shares memory with another one, with what was handed in, or with a draft")
	}
	overwriteAnswers(again, deltaAgain, otherEntry, otherToken)
	if slices.Contains(got[:cap(got)], otherEntry) || slices.Contains(delta.Add[:cap(delta.Add)], otherToken) || slices.Contains(delta.Gone[:cap(delta.Gone)], otherToken) {
		x.t.Fatal("an answer's memory is used again")
	}
	h.overwrite()
	x.slow = next
	x.look()
}

// P23.3, W6: many runs, now and then such as are refused.
func TestRunMemory(t *testing.T) {
	rnd := rand.New(rand.NewSource(233))
	for range 200 {
		n := someNights(t, rnd)
		for range rnd.Intn(3) {
			n.ride(8)
			n.settle()
		}
		n.ride(8)
		h := handed{someTariff(rnd), someOutages(rnd), someAnswers(rnd)}
		run := n.runs + 1
		switch rnd.Intn(12) {
		case 0:
			h.outages = append(h.outages, api.Outage{})
		case 1:
			h.tariff.Longest = 0
		case 2:
			run++
		case 3:
			n.put("t", "")
		}
		memory(n.both, run, h.roomy())
	}
}

// P23.3: the same where nothing was handed in or is answered, with spare room and without.
func TestMemoryOfNone(t *testing.T) {
	for _, h := range []handed{{ofTheWhole(), nil, nil}, {ofTheWhole(), []api.Outage{}, []bool{}}, handed{ofTheWhole(), nil, nil}.roomy(), {api.Tariff{}, nil, nil}} {
		memory(opened(t), 1, h)
		h.tariff = ofTheWhole()
		memory(opened(t).account(a, 0, 0), 1, h)
	}
}

// P23.2, W6: what lies in a list's spare room is not asked.
func TestSpareRoomIsNotAsked(t *testing.T) {
	x := opened(t).tap(taps(a, journey)...)
	one := outages("1 from 0 Mon 08:00 to 0 Mon 08:20")[0]
	got, _, e := x.run(1, ofTheWhole(), withRoom([]api.Outage{}, one), withRoom([]bool{}, yes)...)
	if e != api.OK || !slices.Equal(got, entries(1, a+" 300")) {
		t.Error(got, e)
	}
	got, _, e = x.run(2, ofTheWhole(), withRoom(slices.Repeat([]api.Outage{{Station: 9, From: 5, To: 6}}, 100), api.Outage{}), withRoom([]bool{no}, yes)...)
	if e != api.OK || len(got) != 0 {
		t.Error(got, e)
	}
}

// answersAreNew asks twice, writes over the first answer, and holds the second one, and the draft, against what they should be.
func answersAreNew[T comparable](t *testing.T, x *both, mark, other T, ask func(d *store.Draft) []T) {
	t.Helper()
	want := slices.Clone(ask(x.d))
	first, second := ask(x.d), ask(x.d)
	fill(first, mark)
	if !slices.Equal(second, want) {
		t.Errorf("%v, not %v", second, want)
	}
	x.look()
	fill(second, other)
	if slices.Contains(first[:cap(first)], other) {
		t.Error("two answers share memory")
	}
	x.look()
}

// P23.3, W6: what the first seven calls answer is new memory, also where it is empty.
func TestAnswersAreNew(t *testing.T) {
	markTap := api.Tap{Device: 77, Counter: 77, Token: markToken, Kind: bus, Place: 77, Time: 777}
	otherTap := api.Tap{Device: 88, Counter: 88, Token: otherToken, Kind: bus, Place: 88, Time: 888}
	for _, x := range []*both{opened(t), full(t), committed(t, full(t).slow), full(t).put("t", "").put("a", "").put("e"+be(1, 4), "").put("d"+be(1, 8)+"d", "").put("r", "")} {
		answersAreNew(t, x, markToken, otherToken, func(d *store.Draft) []string { l, _ := settle.Tokens(d); return l })
		answersAreNew(t, x, markTap, otherTap, func(d *store.Draft) []api.Tap { l, _ := settle.Taps(d, a); return l })
		answersAreNew(t, x, api.Account{Token: markToken}, api.Account{Token: otherToken}, func(d *store.Draft) []api.Account { l, _ := settle.Accounts(d); return l })
		answersAreNew(t, x, markEntry, otherEntry, func(d *store.Draft) []api.Entry { l, _ := settle.Ledger(d, 1); return l })
		answersAreNew(t, x, markToken, otherToken, func(d *store.Draft) []string { l, _ := settle.List(d); return l.Tokens })
		answersAreNew(t, x, markToken, otherToken, func(d *store.Draft) []string { l, _ := settle.Delta(d, 1); return l.Add })
		answersAreNew(t, x, markToken, otherToken, func(d *store.Draft) []string { l, _ := settle.Delta(d, 1); return l.Gone })
	}
	delta, _ := settle.Delta(full(t).d, 1)
	fill(delta.Add, markToken)
	if !slices.Equal(delta.Gone, []string{c}) || slices.Contains(delta.Gone[:cap(delta.Gone)], markToken) {
		t.Error("Add and Gone share memory")
	}
}

// P23.3: the lists of a run's delta share no memory with one another, nor spare room, however many tokens they have.
func TestDeltaOfRun(t *testing.T) {
	for many := range 12 {
		for gone := 1; gone < 4; gone++ {
			x := opened(t).list(5, []string{b, c, z}[:gone]...)
			for _, token := range numbered(0, many) {
				x.tap(taps(token, journey)...)
			}
			_, delta, e := x.run(1, ofTheWhole(), nil)
			fill(delta.Add, markToken)
			if e != api.OK || !slices.Equal(delta.Gone, []string{b, c, z}[:gone]) {
				t.Error(delta, e)
			}
			fill(delta.Gone, otherToken)
			if slices.Contains(delta.Add[:cap(delta.Add)], otherToken) {
				t.Error("Add and Gone share memory")
			}
			x.look()
		}
	}
}

// P23.3: what a call told stays as it was, whatever is done to the draft behind it; a draft that was begun ahead of a run does not see it.
func TestAnswersStay(t *testing.T) {
	x := opened(t).tap(taps(a, journey)...)
	y := x.clone()
	first, delta, _ := x.run(1, ofTheWhole(), nil)
	accounts, _ := settle.Accounts(x.d)
	list, _ := settle.List(x.d)
	x.tap(taps(a, journey+", 0 Mon 09:00 bus 9")...).run(2, ofTheWhole(), nil, yes)
	x.remove("a" + a).remove("e" + be(1, 4) + be(0, 4))
	if !slices.Equal(first, entries(1, a+" 300")) || !sameDelta(delta, api.Delta{Version: 1, Add: []string{a}}) || !slices.Equal(accounts, []api.Account{{Token: a, Charged: 300}}) || !slices.Equal(list.Tokens, []string{a}) {
		t.Error(first, delta, accounts, list)
	}
	y.look()
	y.runIs(1, ofTheWhole(), "", nil, a+" 300", []string{a}, nil)
}

// P23.1: a token is known by its bytes, wherever they lie.
func TestTokensByBytes(t *testing.T) {
	x := full(t)
	whole := strings.Repeat(a+b, 2)
	want, _ := x.slow.taps(b)
	same(t, "Taps", want, api.OK)(settle.Taps(x.d, whole[8:16]))
	same(t, "Taps", want, api.OK)(settle.Taps(x.d, string([]byte(b))))
}

// P23.3, W2: what is asked again, behind other questions and a run that is refused, is answered as at first.
func TestAskedAgain(t *testing.T) {
	x := full(t)
	for range 20 {
		x.runFails(3, ofTheWhole(), nil, api.ErrSettled)
		x.runFails(4, api.Tariff{}, nil, api.ErrTariff)
		x.clone().runIs(4, ofTheWhole(), "", []bool{yes}, a+" 475 paid, "+c+" 475", nil, []string{a, b})
		x.look()
	}
}

// W2: what many ask of one draft at once is answered to each as if it were alone; likewise runs on drafts of their own.
func TestAskedAtOnce(t *testing.T) {
	shared := full(t)
	tokens, _ := shared.slow.tokens()
	its, _ := shared.slow.taps(b)
	ledger, _ := shared.slow.ledger(2)
	f := ofTheWhole()
	l, answers := outages("2 from 0 Mon 08:00 to 0 Mon 08:20"), []bool{yes, no}
	want, next, _ := shared.slow.run(4, f, l, answers)
	var all sync.WaitGroup
	for range 16 {
		d := shared.d.Clone()
		all.Go(func() {
			for range 20 {
				gotTokens, _ := settle.Tokens(shared.d)
				gotTaps, _ := settle.Taps(shared.d, b)
				gotLedger, _ := settle.Ledger(shared.d, 2)
				if !slices.Equal(gotTokens, tokens) || !slices.Equal(gotTaps, its) || !slices.Equal(gotLedger, ledger) {
					t.Error("the shared draft is answered otherwise")
					return
				}
				own := d.Clone()
				got, delta, e := settle.Run(own, 4, f, l, answers)
				if e != api.OK || !slices.Equal(got, want.entries) || !sameDelta(delta, want.delta) || !maps.Equal(entriesOf(own), next) {
					t.Errorf("%v, %v, %d, not %v", got, delta, e, want)
					return
				}
			}
		})
	}
	all.Wait()
}
