package settle_test

import (
	"maps"
	"math/rand"
	"slices"
	"testing"

	"farebox/api"
	"farebox/charge"
	"farebox/risk"
	"farebox/settle"
)

// oneOf is any of them.
func oneOf[T any](rnd *rand.Rand, l []T) T { return l[rnd.Intn(len(l))] }

// someTokens are a few, of any bytes, some of them beginning alike.
func someTokens(rnd *rand.Rand) []string {
	var l []string
	for range 1 + rnd.Intn(7) {
		token := []byte(a)
		for range 3 {
			token[rnd.Intn(8)] = oneOf(rnd, []byte{0, 'a', 'b', 't', 127, 128, 255})
		}
		l = append(l, string(token))
	}
	return l
}

// someTap is one of a token in one of the first days; its counter is its own.
func someTap(rnd *rand.Rand, token string, counter int) api.Tap {
	x := api.Tap{Device: oneOf(rnd, []int{1, 1, 2, 300}), Counter: counter, Token: token, Kind: 1 + rnd.Intn(3), Place: 1 + rnd.Intn(4)}
	x.Time = 1440*rnd.Intn(9) + oneOf(rnd, []int{480, 500, 269, 270, 700}) + rnd.Intn(60)
	return x
}

// someTariff is that of the whole with a few of its numbers changed.
func someTariff(rnd *rand.Rand) api.Tariff {
	return with(func(f *api.Tariff) {
		f.Threshold = oneOf(rnd, []int{0, 1, 100, 174, 175, 176, 300, 1000, 2500, maxFare})
		f.Off = oneOf(rnd, []float64{0, 0.5, 0.75, 1})
		f.Most = oneOf(rnd, []int{0, 900, 899, maxFare})
		f.Bus = oneOf(rnd, []int{0, 175, 200})
		f.BusWeekly = oneOf(rnd, []int{0, 1500, 300})
		f.Delay = oneOf(rnd, []int{0, 15, 1440})
	})
}

// someOutages are up to three, each of some minutes or days.
func someOutages(rnd *rand.Rand) []api.Outage {
	var l []api.Outage
	for range rnd.Intn(4) {
		from := rnd.Intn(9 * 1440)
		l = append(l, api.Outage{Station: 1 + rnd.Intn(4), From: from, To: from + 1 + oneOf(rnd, []int{rnd.Intn(60), rnd.Intn(3000)})})
	}
	return l
}

func someAnswers(rnd *rand.Rand) []bool {
	l := make([]bool, rnd.Intn(8))
	for i := range l {
		l[i] = rnd.Intn(2) == 0
	}
	return l
}

// nights are rows of runs, with taps between them: what is asked then holds behind each one.
type nights struct {
	*both
	rnd     *rand.Rand
	tokens  []string
	counter int
	runs    int
	tariff  api.Tariff
	outages []api.Outage
	made    api.RiskList // the list that the deltas make, one behind another
}

func someNights(t *testing.T, rnd *rand.Rand) *nights {
	n := &nights{both: opened(t), rnd: rnd, tokens: someTokens(rnd), tariff: someTariff(rnd)}
	n.put("x", "").put("b", "no account")
	return n
}

// ride lays some taps.
func (n *nights) ride(most int) {
	for range n.rnd.Intn(most + 1) {
		n.counter++
		n.tap(someTap(n.rnd, oneOf(n.rnd, n.tokens), n.counter))
	}
}

// settle does the next run, mostly with the tariff and the outages of the last one.
func (n *nights) settle() []api.Entry {
	n.t.Helper()
	if n.rnd.Intn(3) == 0 {
		n.tariff = someTariff(n.rnd)
	}
	if n.rnd.Intn(3) == 0 {
		n.outages = someOutages(n.rnd)
	}
	n.runs++
	got, delta, e := n.run(n.runs, n.tariff, n.outages, someAnswers(n.rnd)...)
	if e != api.OK {
		n.t.Fatalf("run %d: %d", n.runs, e)
	}
	if n.made, e = risk.Apply(n.made, delta); e != api.OK {
		n.t.Fatalf("run %d: its delta %v does not go on: %d", n.runs, delta, e)
	}
	return got
}

// P23.4: behind each run the entries that are not paid are the charges, those that are paid what was paid; no debt is below 0.
func (n *nights) ledgerHolds() {
	n.t.Helper()
	charged, paid := map[string]int{}, map[string]int{}
	for run := 1; run <= n.runs; run++ {
		l, e := settle.Ledger(n.d, run)
		if e != api.OK {
			n.t.Fatalf("Ledger %d: %d", run, e)
		}
		for _, x := range l {
			if x.Paid {
				paid[x.Token] += x.Amount
			} else {
				charged[x.Token] += x.Amount
			}
		}
	}
	accounts, _ := settle.Accounts(n.d)
	tokens, _ := settle.Tokens(n.d)
	if len(accounts) != len(tokens) {
		n.t.Fatalf("accounts %v of the tokens %q", accounts, tokens)
	}
	for _, x := range accounts {
		its, _ := settle.Taps(n.d, x.Token)
		want, _ := charge.Charge(n.tariff, n.outages, its)
		if x.Charged != want || charged[x.Token] != want || paid[x.Token] != x.Paid || x.Paid > x.Charged || x.Paid < 0 {
			n.t.Fatalf("run %d: %v, charged %d, by the ledger %d and %d", n.runs, x, want, charged[x.Token], paid[x.Token])
		}
	}
}

// P23.5: the list's version is the last run; it has just the tokens whose debt is above the Threshold; the deltas make it.
func (n *nights) listHolds() {
	n.t.Helper()
	list, _ := settle.List(n.d)
	last, _ := settle.Last(n.d)
	if list.Version != n.runs || last != n.runs || n.made.Version != n.runs || !slices.Equal(list.Tokens, n.made.Tokens) {
		n.t.Fatalf("list %v, last %d, by the deltas %v, behind run %d", list, last, n.made, n.runs)
	}
	accounts, _ := settle.Accounts(n.d)
	for _, x := range accounts {
		if slices.Contains(list.Tokens, x.Token) != (x.Charged-x.Paid > n.tariff.Threshold) {
			n.t.Fatalf("%v, Threshold %d, list %q", x, n.tariff.Threshold, list.Tokens)
		}
	}
	var again api.RiskList
	for version := 1; version <= n.runs; version++ {
		delta, e := settle.Delta(n.d, version)
		if e != api.OK {
			n.t.Fatalf("Delta %d: %d", version, e)
		}
		again, _ = risk.Apply(again, delta)
	}
	if again.Version != list.Version || !slices.Equal(again.Tokens, list.Tokens) {
		n.t.Fatalf("the deltas make %v, not %v", again, list)
	}
}

// P23.6: each run that was carried out is ErrSettled.
func (n *nights) againIsSettled() {
	n.t.Helper()
	for run := 1; run <= n.runs; run++ {
		n.runFails(run, n.tariff, n.outages, api.ErrSettled)
	}
	n.runFails(n.runs+2, n.tariff, n.outages, api.ErrSettled)
}

// P23.4, P23.5, P23.6: many rows of runs, with taps, tariffs, outages and answers.
func TestNights(t *testing.T) {
	rnd := rand.New(rand.NewSource(236))
	back, listed, gone := 0, 0, 0
	for range 150 {
		n := someNights(t, rnd)
		for range 1 + rnd.Intn(12) {
			n.ride(8)
			for _, x := range n.settle() {
				if x.Paid && x.Amount < 0 {
					back++
				}
			}
			n.ledgerHolds()
			n.listHolds()
			n.againIsSettled()
			delta, _ := settle.Delta(n.d, n.runs)
			listed, gone = listed+len(delta.Add), gone+len(delta.Gone)
		}
		n.look()
	}
	if back < 150 || listed < 400 || gone < 250 {
		t.Error("only so often something is paid back, listed, and gone:", back, listed, gone)
	}
}

// P23.6: without new taps, with the same tariff and outages, a run has no entries but those of what is paid; who said no is asked again.
func TestWithoutNewTaps(t *testing.T) {
	rnd := rand.New(rand.NewSource(237))
	paid := 0
	for range 200 {
		n := someNights(t, rnd)
		n.ride(30)
		n.settle()
		for range 3 {
			n.runs++
			got, delta, e := n.run(n.runs, n.tariff, n.outages, someAnswers(rnd)...)
			if e != api.OK || len(delta.Add) > 0 || slices.ContainsFunc(got, func(x api.Entry) bool { return !x.Paid || x.Amount <= 0 }) {
				t.Fatalf("%v, %v, %d", got, delta, e)
			}
			paid += len(got)
		}
		n.runs++
		got, delta, e := n.run(n.runs, n.tariff, n.outages)
		if e != api.OK || len(got)+len(delta.Add)+len(delta.Gone) > 0 {
			t.Fatalf("%v, %v, %d", got, delta, e)
		}
	}
	if paid < 150 {
		t.Error("only so many paid:", paid)
	}
}

// P23.6: two drafts that are alike tell the same, and are alike then, however they came about.
func TestAlike(t *testing.T) {
	rnd := rand.New(rand.NewSource(238))
	for range 60 {
		n := someNights(t, rnd)
		for range rnd.Intn(4) {
			n.ride(10)
			n.settle()
		}
		n.ride(10)
		f, l, answers := someTariff(rnd), someOutages(rnd), someAnswers(rnd)
		laid := opened(t)
		for key, value := range n.slow { // in any order
			laid.put(key, value)
		}
		all := []*both{n.both, n.clone(), laid, committed(t, n.slow)}
		var first []api.Entry
		for i, x := range all {
			got, _, e := x.run(n.runs+1, f, l, answers...)
			if i == 0 {
				first = got
			}
			if e != api.OK || !slices.Equal(got, first) || !maps.Equal(entriesOf(x.d), entriesOf(all[0].d)) {
				t.Fatalf("%d: %v, %d, not %v", i, got, e, first)
			}
		}
	}
}

// P23.2, P23.6: the order in which taps were taken in changes nothing.
func TestAnyOrder(t *testing.T) {
	rnd := rand.New(rand.NewSource(239))
	for range 60 {
		n := someNights(t, rnd)
		var all []api.Tap
		for i := range 40 {
			all = append(all, someTap(rnd, oneOf(rnd, n.tokens), 1+i))
		}
		answers := someAnswers(rnd)
		var first []api.Entry
		for i := range 3 {
			rnd.Shuffle(len(all), func(i, k int) { all[i], all[k] = all[k], all[i] })
			got, _, e := opened(t).tap(all...).run(1, n.tariff, nil, answers...)
			if i == 0 {
				first = got
			}
			if e != api.OK || !slices.Equal(got, first) {
				t.Fatalf("%v, %d, not %v", got, e, first)
			}
		}
	}
}

// P23.1, P23.2: drafts of others, with accounts, lists and runs of any kind, now and then with what may not be.
func TestOthers(t *testing.T) {
	rnd := rand.New(rand.NewSource(240))
	told := map[api.Errno]int{}
	for range 600 {
		n := someNights(t, rnd)
		n.ride(10)
		for _, token := range n.tokens {
			if rnd.Intn(2) == 0 {
				charged := oneOf(rnd, []int{0, 175, 300, 900, 1000 + rnd.Intn(5000), 1 << 53})
				n.account(token, charged, oneOf(rnd, []int{0, charged, rnd.Intn(charged + 1)}))
			}
		}
		listed := slices.Clone(n.tokens)
		slices.Sort(listed)
		n.layList(slices.Compact(listed))
		if rnd.Intn(4) == 0 {
			n.spoil()
		}
		last, _ := n.slow.last()
		_, _, e := n.run(last+1, someTariff(rnd), someOutages(rnd), someAnswers(rnd)...)
		told[e]++
		n.look()
	}
	if told[api.OK] < 400 || told[api.ErrSettle] < 60 {
		t.Error("only so many of each kind:", told)
	}
}

// layList lays a list of some of these tokens, and a last run.
func (n *nights) layList(tokens []string) {
	if n.rnd.Intn(3) > 0 {
		n.list(1+n.rnd.Intn(300), slices.DeleteFunc(tokens, func(string) bool { return n.rnd.Intn(2) == 0 })...)
	}
	if n.rnd.Intn(3) > 0 {
		n.last(1 + n.rnd.Intn(70000))
	}
}

// spoil changes a byte of some value, or of its key.
func (n *nights) spoil() {
	keys := slices.Sorted(maps.Keys(n.slow))
	key := oneOf(n.rnd, keys)
	value := []byte(n.slow[key])
	if len(value) > 0 && n.rnd.Intn(2) == 0 {
		value[n.rnd.Intn(len(value))] ^= byte(1 + n.rnd.Intn(255))
		n.put(key, string(value))
		return
	}
	n.remove(key)
	other := []byte(key + "\x00")
	other[n.rnd.Intn(len(other))] ^= byte(1 + n.rnd.Intn(255))
	n.put(string(other), string(value))
}

// FuzzKept looks for entries of a draft of which something else is told than the chapter tells.
func FuzzKept(f *testing.F) {
	for key, value := range full(&testing.T{}).slow {
		f.Add(key, value)
		f.Add(key+"\x00", value)
	}
	f.Fuzz(func(t *testing.T, key, value string) {
		if len(key) < 1 || len(key) > api.MaxKey || len(value) > api.MaxValue {
			return
		}
		for _, x := range []*both{opened(t), full(t)} {
			x.put(key, value).look()
			last, _ := x.slow.last()
			x.run(last+1, ofTheWhole(), nil, yes, no, yes)
			x.look()
		}
	})
}

// FuzzRun looks for rows of taps and runs of which something else comes about. Each step is four bytes: a tap's token and kind, its place, and its time; or a run, its answers, its threshold, and an outage.
func FuzzRun(f *testing.F) {
	f.Add([]byte{1, 1, 1, 224, 2, 2, 1, 254, 0, 0, 1, 0, 0, 1, 1, 0, 0, 0, 1, 9})
	f.Add([]byte{3, 9, 3, 0, 7, 9, 3, 10, 0, 3, 0, 0, 5, 3, 2, 0, 0, 0, 255, 250, 0, 0, 0, 4})
	f.Fuzz(func(t *testing.T, steps []byte) {
		if len(steps) > 400 {
			return
		}
		x, run, counter := opened(t), 0, 0
		for ; len(steps) >= 4; steps = steps[4:] {
			kind, place, high, low := int(steps[0]), int(steps[1]), int(steps[2]), int(steps[3])
			if kind&3 > 0 {
				counter++
				one := api.Tap{Device: 1, Counter: counter, Token: []string{a, b, c, z}[kind>>2&3], Kind: kind & 3, Place: max(1, place), Time: high<<8 + low}
				x.tap(one)
				continue
			}
			run++
			l := []api.Outage{{Station: 1 + low&3, From: low << 6, To: low<<6 + 1 + high}}
			x.run(run, with(func(f *api.Tariff) { f.Threshold = 5 * high }), l, place&1 > 0, place&2 > 0, place&4 > 0)
		}
		x.look()
	})
}
