package settle_test

import (
	"fmt"
	"maps"
	"math"
	"slices"
	"strconv"
	"strings"
	"testing"

	"farebox/api"
	"farebox/block"
	"farebox/record"
	"farebox/settle"
	"farebox/store"
)

const (
	in, out, bus = api.TapEntry, api.TapExit, api.TapBus

	maxTime = 1 << 31
	maxFare = 1 << 20
	maxRuns = 1 << 31
	yes, no = true, false
)

// The tokens of most tests, rising.
const (
	a = "aaaaaaaa"
	b = "bbbbbbbb"
	c = "cccccccc"
	z = "zzzzzzzz"
)

// bytesOf are those of a record that may be.
func bytesOf(l []byte, e api.Errno) string {
	if e != api.OK {
		panic(e)
	}
	return string(l)
}

// ofTheWhole is the tariff of the document's examples of the whole.
func ofTheWhole() api.Tariff {
	return api.Tariff{
		Stations: []api.Station{{Id: 1, Zone: 1}, {Id: 2, Zone: 2}, {Id: 3, Zone: 1}},
		Spans: []api.Span{
			{From: 1, To: 1, Single: 200, Daily: 500, Weekly: 2000},
			{From: 1, To: 2, Single: 300, Daily: 700, Weekly: 2800},
			{From: 2, To: 2, Single: 150, Daily: 500, Weekly: 2000},
		},
		Peak: []api.Band{{From: 390, To: 570}},
		Off:  0.5, Bus: 175, BusDaily: 400, BusWeekly: 1500, Hopper: 60, Most: 900, Longest: 120, Delay: 15, Threshold: 100,
	}
}

// with is that tariff, changed.
func with(change func(f *api.Tariff)) api.Tariff {
	f := ofTheWhole()
	change(&f)
	return f
}

// lines are a text's words, line by line; lines end with a comma.
func lines(s string) [][]string {
	var l [][]string
	for _, line := range strings.Split(s, ",") {
		if words := strings.Fields(line); len(words) > 0 {
			l = append(l, words)
		}
	}
	return l
}

func number(s string) int {
	n, err := strconv.Atoi(s)
	if err != nil {
		panic(err)
	}
	return n
}

// minute is the time of three words such as 0 Mon 08:00, reckoned by midnights.
func minute(words []string) int {
	day := slices.Index([]string{"Mon", "Tue", "Wed", "Thu", "Fri", "Sat", "Sun"}, words[1])
	if day < 0 || len(words[2]) != 5 {
		panic(words)
	}
	return 10080*number(words[0]) + 1440*day + 60*number(words[2][:2]) + number(words[2][3:])
}

// taps are a token's, of a text such as "0 Mon 08:00 in 1, 0 Mon 08:30 out 2, 0 Mon 08:40 bus 9".
func taps(token, s string) []api.Tap {
	kinds := map[string]int{"in": in, "out": out, "bus": bus}
	var l []api.Tap
	for i, w := range lines(s) {
		l = append(l, api.Tap{Device: 1, Counter: 1 + i, Token: token, Kind: kinds[w[3]], Place: number(w[4]), Time: minute(w)})
	}
	return l
}

// outages are those of a text such as "2 from 0 Mon 08:00 to 0 Mon 09:00".
func outages(s string) []api.Outage {
	var l []api.Outage
	for _, w := range lines(s) {
		l = append(l, api.Outage{Station: number(w[0]), From: minute(w[2:5]), To: minute(w[6:9])})
	}
	return l
}

// entries are those of a run, of a text such as "aaaaaaaa 300, aaaaaaaa -300 paid".
func entries(run int, s string) []api.Entry {
	var l []api.Entry
	for _, w := range lines(s) {
		l = append(l, api.Entry{Run: run, Token: w[0], Amount: number(w[1]), Paid: len(w) > 2})
	}
	return l
}

// many are taps of one token, on a bus of its own day each.
func many(token string, n int) []api.Tap {
	var l []api.Tap
	for i := range n {
		l = append(l, api.Tap{Device: 1, Counter: 1 + i, Token: token, Kind: bus, Place: 9, Time: 480 + 1440*i})
	}
	return l
}

// numbered are so many tokens, rising, from a number on.
func numbered(from, many int) []string {
	var l []string
	for n := from; n < from+many; n++ {
		l = append(l, fmt.Sprintf("%08d", n))
	}
	return l
}

// noTokens are texts that are none.
func noTokens() []string {
	return []string{"", "a", "aaaaaaa", "aaaaaaaaa", a + a, "t" + a, "\x00\x00\x00\x00\x00\x00\x00", "\xff\xff\xff\xff\xff\xff\xff\xff\xff"}
}

// short tells anything, without most of much.
func short(l ...any) string {
	s := fmt.Sprintf("%q", l)
	return s[:min(len(s), 600)]
}

// both are a draft and what stands in it, over which the chapter is told slowly.
type both struct {
	t    *testing.T
	d    *store.Draft
	slow kept
}

// opened is a draft of a new store.
func opened(t *testing.T) *both {
	t.Helper()
	s, err := store.Open(block.New(4).Disk())
	if err != nil {
		t.Fatal(err)
	}
	return &both{t, s.Begin(), kept{}}
}

// committed is a draft of a store that has these entries.
func committed(t *testing.T, l kept) *both {
	t.Helper()
	s, err := store.Open(block.New(8000).Disk())
	if err != nil {
		t.Fatal(err)
	}
	d := s.Begin()
	for key, value := range l {
		d.Put(key, value)
	}
	if err := s.Commit(d); err != nil {
		t.Fatal(err)
	}
	return &both{t, s.Begin(), maps.Clone(l)}
}

// clone is another one alike.
func (x *both) clone() *both { return &both{x.t, x.d.Clone(), maps.Clone(x.slow)} }

func (x *both) put(key, value string) *both {
	x.t.Helper()
	if e := x.d.Put(key, value); e != api.OK {
		x.t.Fatalf("Put(%q): %d", key, e)
	}
	x.slow[key] = value
	return x
}

func (x *both) remove(key string) *both {
	x.t.Helper()
	if !x.d.Delete(key) {
		x.t.Fatalf("there is no %q", key)
	}
	delete(x.slow, key)
	return x
}

// Each of these lays records under their keys.

func (x *both) tap(l ...api.Tap) *both {
	for _, one := range l {
		x.put(slowTapKey(one), bytesOf(record.Tap(one)))
	}
	return x
}

func (x *both) account(token string, charged, paid int) *both {
	return x.put("a"+token, bytesOf(record.Account(api.Account{Token: token, Charged: charged, Paid: paid})))
}

func (x *both) entry(place int, one api.Entry) *both {
	return x.put("e"+be(one.Run, 4)+be(place, 4), bytesOf(record.Entry(one)))
}

func (x *both) delta(one api.Delta) *both {
	return x.put("d"+be(one.Version, 8), bytesOf(record.Delta(one)))
}

func (x *both) list(version int, tokens ...string) *both {
	return x.put("r", bytesOf(record.Delta(api.Delta{Version: version, Add: tokens})))
}

func (x *both) last(run int) *both { return x.put("n", be(run, 4)) }

// entriesOf are all that stand in a draft.
func entriesOf(d *store.Draft) kept { return maps.Collect(d.All("", "")) }

// tokensToAsk are those that stand in the draft, those beside them, and some that are none's.
func (x *both) tokensToAsk() []string {
	l := append(noTokens(), a, b, c, z, "\x00\x00\x00\x00\x00\x00\x00\x00", "\xff\xff\xff\xff\xff\xff\xff\xff")
	for key := range x.slow {
		if (key[0] == 't' || key[0] == 'a') && len(key) > 8 {
			l = append(l, key[1:9], key[1:8]+string([]byte{key[8] + 1}), key[1:8]+string([]byte{key[8] - 1}))
		}
	}
	slices.Sort(l)
	return slices.Compact(l)
}

// numbersToAsk are those that stand behind a letter in so many bytes, those beside them, and edges.
func (x *both) numbersToAsk(letter byte, size int) []int {
	l := []int{math.MinInt, -maxRuns, -1, 0, 1, 2, 3, maxRuns - 1, maxRuns, maxRuns + 1, 1 << 32, 1<<32 + 1, 1 << 62, math.MaxInt - 1, math.MaxInt}
	for key := range x.slow {
		if key[0] == letter && len(key) > size {
			n := 0
			for _, digit := range []byte(key[1 : 1+size]) {
				n = n<<8 | int(digit)
			}
			l = append(l, n, n+1, n-1)
		}
	}
	slices.Sort(l)
	return slices.Compact(l)
}

// look holds all that the draft has, and all that the first seven calls tell, against the chapter told slowly.
func (x *both) look() {
	x.t.Helper()
	if got := entriesOf(x.d); !maps.Equal(got, x.slow) {
		x.t.Fatalf("the draft has %s, not %s", short(got), short(x.slow))
	}
	x.lookWhole()
	for _, token := range x.tokensToAsk() {
		want, wantE := x.slow.taps(token)
		same(x.t, "Taps "+strconv.Quote(token), want, wantE)(settle.Taps(x.d, token))
	}
	for _, n := range x.numbersToAsk('e', 4) {
		want, wantE := x.slow.ledger(n)
		same(x.t, "Ledger "+strconv.Itoa(n), want, wantE)(settle.Ledger(x.d, n))
	}
	for _, n := range x.numbersToAsk('d', 8) {
		want, wantE := x.slow.delta(n)
		got, e := settle.Delta(x.d, n)
		if e != wantE || !sameDelta(got, want) {
			x.t.Fatalf("Delta %d: %v, %d, not %v, %d", n, got, e, want, wantE)
		}
	}
}

// lookWhole does so with the calls that ask for nothing.
func (x *both) lookWhole() {
	x.t.Helper()
	tokens, e := x.slow.tokens()
	same(x.t, "Tokens", tokens, e)(settle.Tokens(x.d))
	accounts, e := x.slow.accounts()
	same(x.t, "Accounts", accounts, e)(settle.Accounts(x.d))
	last, lastE := x.slow.last()
	if got, e := settle.Last(x.d); got != last || e != lastE {
		x.t.Fatalf("Last: %d, %d, not %d, %d", got, e, last, lastE)
	}
	list, listE := x.slow.list()
	if got, e := settle.List(x.d); e != listE || got.Version != list.Version || !slices.Equal(got.Tokens, list.Tokens) {
		x.t.Fatalf("List: %v, %d, not %v, %d", got, e, list, listE)
	}
}

// same holds a list, and an error, against what they should be.
func same[T comparable](t *testing.T, call string, want []T, wantE api.Errno) func([]T, api.Errno) {
	t.Helper()
	return func(got []T, e api.Errno) {
		t.Helper()
		if e != wantE || !slices.Equal(got, want) {
			t.Fatalf("%s: %s, %d, not %s, %d", call, short(got), e, short(want), wantE)
		}
	}
}

func sameDelta(x, y api.Delta) bool {
	return x.Version == y.Version && slices.Equal(x.Add, y.Add) && slices.Equal(x.Gone, y.Gone)
}

// run is Run, and what the draft has behind it, with both.
func (x *both) run(n int, f api.Tariff, l []api.Outage, answers ...bool) ([]api.Entry, api.Delta, api.Errno) {
	x.t.Helper()
	want, next, wantE := x.slow.run(n, f, l, answers)
	got, delta, e := settle.Run(x.d, n, f, l, answers)
	if e != wantE || !slices.Equal(got, want.entries) || !sameDelta(delta, want.delta) {
		x.t.Fatalf("Run %d: %s, %v, %d, not %s, %v, %d", n, short(got), delta, e, short(want.entries), want.delta, wantE)
	}
	x.slow = next
	if has := entriesOf(x.d); !maps.Equal(has, next) {
		x.t.Fatalf("behind run %d, %d, the draft has %s, not %s", n, e, short(has), short(next))
	}
	return got, delta, e
}

// runIs holds a run against what the test says, too: its entries, and its delta.
func (x *both) runIs(n int, f api.Tariff, l string, answers []bool, want string, add, gone []string) {
	x.t.Helper()
	before, _ := settle.List(x.d)
	got, delta, e := x.run(n, f, outages(l), answers...)
	if e != api.OK || !slices.Equal(got, entries(n, want)) || !sameDelta(delta, api.Delta{Version: before.Version + 1, Add: add, Gone: gone}) {
		x.t.Errorf("Run %d: %v, %v, %d, not %s, %q, %q", n, got, delta, e, want, add, gone)
	}
	x.look()
}

// runFails holds a run's error against what the test says, too; nothing in the draft changes.
func (x *both) runFails(n int, f api.Tariff, l []api.Outage, want api.Errno) {
	x.t.Helper()
	edits := x.d.Edits()
	got, delta, e := x.run(n, f, l, yes, yes, yes)
	if e != want || len(got) != 0 || !sameDelta(delta, api.Delta{}) || !slices.Equal(x.d.Edits(), edits) {
		x.t.Errorf("Run %d: %v, %v, %d, not %d", n, got, delta, e, want)
	}
}

// accountsAre holds all accounts against those of a text such as "aaaaaaaa 300 0".
func (x *both) accountsAre(s string) {
	x.t.Helper()
	var want []api.Account
	for _, w := range lines(s) {
		want = append(want, api.Account{Token: w[0], Charged: number(w[1]), Paid: number(w[2])})
	}
	if got, e := settle.Accounts(x.d); e != api.OK || !slices.Equal(got, want) {
		x.t.Errorf("Accounts: %v, %d, not %v", got, e, want)
	}
}

func (x *both) listIs(version int, tokens ...string) {
	x.t.Helper()
	if got, e := settle.List(x.d); e != api.OK || got.Version != version || !slices.Equal(got.Tokens, tokens) {
		x.t.Errorf("List: %v, %d, not %d, %q", got, e, version, tokens)
	}
}
