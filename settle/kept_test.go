package settle_test

import (
	"fmt"
	"math"
	"slices"
	"strings"
	"testing"

	"farebox/api"
	"farebox/record"
	"farebox/settle"
)

// full is a draft with something under every letter.
func full(t *testing.T) *both {
	t.Helper()
	x := opened(t)
	for _, token := range []string{a, b, c} {
		x.tap(taps(token, journey+", 0 Mon 10:00 bus 9")...)
	}
	x.account(a, 475, 0).account(b, 475, 475).account(z, 0, 0)
	for run := 1; run <= 3; run++ {
		x.entry(0, api.Entry{Run: run, Token: a, Amount: 5}).entry(1, api.Entry{Run: run, Token: b, Amount: -5}).entry(2, api.Entry{Run: run, Token: b, Amount: -5, Paid: true})
		x.delta(api.Delta{Version: run, Add: []string{a, b}, Gone: []string{c}})
	}
	return x.list(3, a, b, c).last(3).put("x", "").put("q\x00", "q")
}

// settleErrors are the calls that tell ErrSettle, of all those that ask for a few tokens, runs and versions.
func (x *both) settleErrors() string {
	var l []string
	told := func(e api.Errno, call string, about ...any) {
		if e == api.ErrSettle {
			l = append(l, strings.Trim(fmt.Sprint(call, about), "[]"))
		}
	}
	_, e := settle.Tokens(x.d)
	told(e, "Tokens")
	for _, token := range []string{a, b, c, z} {
		_, e = settle.Taps(x.d, token)
		told(e, "Taps ", token[:1])
	}
	_, e = settle.Accounts(x.d)
	told(e, "Accounts")
	for n := 1; n <= 4; n++ {
		_, e = settle.Ledger(x.d, n)
		told(e, "Ledger ", n)
		_, e = settle.Delta(x.d, n)
		told(e, "Delta ", n)
	}
	_, e = settle.Last(x.d)
	told(e, "Last")
	_, e = settle.List(x.d)
	told(e, "List")
	return strings.ReplaceAll(strings.Join(l, ", "), "[", "")
}

// tells holds which calls tell ErrSettle against what the test says, and all calls against the chapter told slowly; Run tells it of some of them.
func (x *both) tells(why, want string) {
	x.t.Helper()
	if got := x.settleErrors(); got != want {
		x.t.Errorf("%s: ErrSettle of %s, not of %s", why, got, want)
	}
	x.look()
	last, _ := x.slow.last()
	e := x.slow.runError(last+1, ofTheWhole(), nil)
	for _, call := range []string{"Tokens", "Accounts", "Last", "List"} {
		if strings.Contains(want, call) && e != api.ErrSettle {
			x.t.Errorf("%s: Run: %d", why, e)
		}
	}
	if e == api.ErrSettle {
		x.runFails(last+1, ofTheWhole(), nil, api.ErrSettle)
	} else if _, _, got := x.clone().run(last+1, ofTheWhole(), nil); got != api.OK {
		x.t.Errorf("%s: Run: %d", why, got)
	}
}

// P23.1: a draft without anything, and one with something under every letter.
func TestEmptyAndFull(t *testing.T) {
	x := opened(t)
	x.look()
	if n, e := settle.Last(x.d); n != 0 || e != api.OK {
		t.Error(n, e)
	}
	x.listIs(0)
	x.accountsAre("")
	if l, e := settle.Taps(x.d, a); len(l) != 0 || e != api.OK {
		t.Error(l, e)
	}
	if l, e := settle.Ledger(x.d, 1); len(l) != 0 || e != api.OK {
		t.Error(l, e)
	}
	full(t).tells("full", "")
}

// P23.1: keys with another first letter are not looked at, also those just ahead of and just behind what a call looks at.
func TestOtherKeys(t *testing.T) {
	x := full(t)
	for letter := range 256 {
		if first := string([]byte{byte(letter)}); !strings.Contains("taedrn", first) {
			x.put(first, "no record").put(first+a, "").put(first+"\xff\xff\xff\xff\xff\xff\xff\xff\xff", "no record")
		}
	}
	x.tells("other letters", "")
	for _, letter := range "taedrn" {
		ahead := string([]byte{byte(letter) - 1}) + strings.Repeat("\xff", 199)
		if !strings.Contains("taedrn", ahead[:1]) {
			x.put(ahead, "no record")
		}
	}
	x.tells("just ahead", "")
	y := opened(t)
	for _, key := range []string{"T" + a, "A" + a, "N", "R", "\xf4" + a, "\xe1" + a, "\xee", "\xf2", "é", "ŧ"} {
		y.put(key, "no record")
	}
	y.tells("other forms of the letters", "")
}

// tapAt is a right tap of a token, and its key.
func tapAt(token string, time int) (key, value string) {
	one := api.Tap{Device: 300, Counter: 70000, Token: token, Kind: bus, Place: 9, Time: time}
	return slowTapKey(one), bytesOf(record.Tap(one))
}

// P23.1: keys of taps that are shorter, longer or otherwise, at the first, a middle and the last place, and among those of each token.
func TestTapKeys(t *testing.T) {
	for _, row := range []struct{ token, want string }{
		{a, "Tokens, Taps a"}, {b, "Tokens, Taps b"}, {c, "Tokens, Taps c"}, {z, "Tokens, Taps z"}, {"aaaaaaab", "Tokens"}, {"\x00\x00\x00\x00\x00\x00\x00\x00", "Tokens"}, {"\xff\xff\xff\xff\xff\xff\xff\xff", "Tokens"},
	} {
		for _, time := range []int{0, 500, maxTime} {
			key, value := tapAt(row.token, time)
			full(t).put(key, value).tells("a right one", "")
			full(t).put(key[:18], value).tells("shorter", row.want)
			full(t).put(key+"\x00", value).tells("longer", row.want)
			full(t).put(key[:9], value).tells("the token alone", row.want)
			full(t).put(key[:8], value).tells("less than the token", "Tokens")
			full(t).put("t", value).tells("the letter alone", "Tokens")
			for at := 9; at < 19; at++ {
				other := []byte(key)
				other[at] ^= 1
				full(t).put(string(other), value).tells("another key", row.want)
			}
			full(t).put(key[:18]+"\xff", value).tells("another key", row.want)
		}
	}
}

// P23.1: values of taps that are none, or another one's.
func TestTapValues(t *testing.T) {
	for _, token := range []string{a, b, c} {
		want := "Tokens, Taps " + token[:1]
		for i, one := range taps(token, journey+", 0 Mon 10:00 bus 9") {
			key, value := slowTapKey(one), bytesOf(record.Tap(one))
			for _, other := range []string{"", value[:20], value + "\x00", "t" + value, token, string(make([]byte, 21)), strings.Repeat("\xff", 21)} {
				full(t).put(key, other).tells("no tap", want)
			}
			for at := range 21 {
				other := []byte(value)
				other[at] ^= 3
				read, f := record.ReadTap(other)
				if f.Code != api.OK || slowTapKey(read) != key {
					full(t).put(key, string(other)).tells("another tap's", want)
				} else if at < 14 || at > 16 {
					t.Error("alike but for the byte", at)
				}
			}
			next := taps(token, journey+", 0 Mon 10:00 bus 9")[(i+1)%3]
			full(t).put(key, bytesOf(record.Tap(next))).tells("the next tap's", want)
			one.Token = z
			full(t).put(key, bytesOf(record.Tap(one))).tells("another token's", want)
		}
	}
}

// P23.1: keys and values of accounts, at the first, a middle and the last place.
func TestAccounts(t *testing.T) {
	right := bytesOf(record.Account(api.Account{Token: "mmmmmmmm", Charged: 5, Paid: 5}))
	for _, key := range []string{"a", "a\x00", "a" + a[:7], "a" + a + "a", "ammmmmmm", "ammmmmmmmm", "ammmmmmmmmm", "annnnnnnn", "a" + z + z, "a\xff", "a" + strings.Repeat("\xff", 199)} {
		if key != "ammmmmmmm" {
			full(t).put(key, right).tells("a key "+key, "Tokens, Accounts")
		}
	}
	full(t).put("ammmmmmmm", right).tells("a right one", "")
	for _, token := range []string{a, b, z, "\x00\x00\x00\x00\x00\x00\x00\x00", "\xff\xff\xff\xff\xff\xff\xff\xff"} {
		value := bytesOf(record.Account(api.Account{Token: token, Charged: 5, Paid: 4}))
		full(t).put("a"+token, value).tells("a right one", "")
		for _, other := range []string{"", token, right, value[:23], value + "\x00", token + be(5, 8) + be(6, 8), token + be(1<<53+1, 8) + be(0, 8), token + be(-1, 8) + be(-1, 8)} {
			full(t).put("a"+token, other).tells("no account of it", "Tokens, Accounts")
		}
	}
}

// P23.1: keys and values of entries: each is looked at by Ledger of its run alone.
func TestEntries(t *testing.T) {
	for run := 1; run <= 3; run++ {
		want, run4 := fmt.Sprint("Ledger ", run), be(run, 4)
		one := api.Entry{Run: run, Token: c, Amount: 7, Paid: true}
		value := bytesOf(record.Entry(one))
		full(t).put("e"+run4+be(3, 4), value).tells("one more", "")
		for _, key := range []string{"", "\x00", "\x00\x00\x00", be(3, 4) + "\x00", be(0, 4) + "\x00", be(4, 4), be(1<<32-1, 4), be(3, 8), "\xff", strings.Repeat("\xff", 195)} {
			full(t).put("e"+run4+key, value).tells("another key", want)
		}
		for place := range 3 {
			key := "e" + run4 + be(place, 4)
			full(t).put(key, value).tells("another right one", "")
			if place < 2 {
				full(t).remove(key).tells("a gap", want)
			} else {
				full(t).remove(key).tells("one less", "")
			}
			other := one
			other.Run = run + 1
			nothing := run4 + c + be(0, 8) + "\x00"
			for _, wrong := range []string{"", run4, value[:20], value + "\x00", bytesOf(record.Entry(other)), nothing, value[:20] + "\x02", run4 + c + be(1<<53+1, 8) + "\x00", be(0, 4) + value[4:]} {
				full(t).put(key, wrong).tells("no entry of it", want)
			}
		}
		full(t).remove("e"+run4+be(0, 4)).remove("e"+run4+be(1, 4)).remove("e"+run4+be(2, 4)).tells("no entries", "")
		full(t).remove("e"+run4+be(1, 4)).remove("e"+run4+be(2, 4)).put("e"+run4+be(256, 4), value).tells("a gap", want)
	}
	for _, key := range []string{"e", "e\x00", "e\x00\x00\x00", "e" + be(0, 4), "e" + be(0, 8), "e" + be(5, 4), "e" + be(maxRuns+1, 8), "e\xff\xff\xff\xff\xff"} {
		full(t).put(key, "no record").tells("no asked run's "+key, "")
	}
}

// P23.1: as many entries that their places need more than a byte.
func TestManyEntries(t *testing.T) {
	x := opened(t)
	for place := range 70000 {
		x.entry(place, api.Entry{Run: maxRuns, Token: a, Amount: place + 1})
	}
	want, _ := x.slow.ledger(maxRuns)
	same(t, "Ledger", want, api.OK)(settle.Ledger(x.d, maxRuns))
	x.remove("e" + be(maxRuns, 4) + be(65536, 4))
	same[api.Entry](t, "Ledger", nil, api.ErrSettle)(settle.Ledger(x.d, maxRuns))
}

// P23.1: keys and values of deltas: each is looked at by Delta of its version alone.
func TestDeltas(t *testing.T) {
	for version := 1; version <= 3; version++ {
		want, key := fmt.Sprint("Delta ", version), "d"+be(version, 8)
		value := bytesOf(record.Delta(api.Delta{Version: version, Gone: []string{z}}))
		full(t).put(key, value).tells("another right one", "")
		full(t).remove(key).tells("none", "")
		full(t).put(key+"\x00", value).tells("a longer key", want)
		full(t).put(key+strings.Repeat("\xff", 191), value).tells("a longer key", want)
		full(t).remove(key).put(key+"\x00", value).tells("a longer key alone", want)
		other := bytesOf(record.Delta(api.Delta{Version: version + 1}))
		for _, wrong := range []string{"", value[:8], value[:len(value)-1], value + "\x00", other, be(0, 8) + value[8:], be(version, 8) + "\x00\x02" + b + a + "\x00\x00", be(version, 8) + "\x00\x01" + a + "\x00\x01" + a, be(version, 8) + "\x03\xe9\x00\x00"} {
			full(t).put(key, wrong).tells("no delta of it", want)
		}
	}
	for _, key := range []string{"d", "d\x00", "d" + be(2, 7), "d" + be(0, 8), "d" + be(-1, 8), "d" + be(5, 8), "d" + be(1<<62, 8)} {
		full(t).put(key, "no record").tells("no asked version's", "")
	}
}

// P23.1: the list: its key, and a value that is no delta which makes a list of nothing.
func TestListKept(t *testing.T) {
	value := bytesOf(record.Delta(api.Delta{Version: 3, Add: []string{a, b, c}}))
	for _, key := range []string{"r\x00", "rr", "r" + a, "r\xff", "r" + strings.Repeat("\xff", 199)} {
		full(t).put(key, value).tells("another key", "List")
		full(t).remove("r").put(key, value).tells("another key alone", "List")
	}
	full(t).remove("r").tells("none", "")
	for _, wrong := range []string{
		"", "\x00", value[:8], value[:len(value)-1], value + "\x00", be(0, 8) + "\x00\x00\x00\x00", be(0, 8) + value[8:], be(-1, 8) + value[8:],
		bytesOf(record.Delta(api.Delta{Version: 3, Gone: []string{a}})), bytesOf(record.Delta(api.Delta{Version: 3, Add: []string{a}, Gone: []string{b}})),
		be(3, 8) + "\x00\x02" + b + a + "\x00\x00", be(3, 8) + "\x00\x02" + a + a + "\x00\x00", be(3, 8) + "\x00\x01" + a + "\x00\x01" + a, be(3, 8) + "\x03\xe9" + strings.Join(numbered(0, 1001), "") + "\x00\x00",
	} {
		full(t).put("r", wrong).tells("no list", "List")
	}
	full(t).list(1).tells("of no tokens", "")
	full(t).list(7, numbered(0, 1000)...).tells("of as many tokens as may be", "")
}

// P23.1: the last run: its key, and a value that is no run in four bytes.
func TestLastKept(t *testing.T) {
	for _, key := range []string{"n\x00", "nn", "n" + a, "n\xff", "n" + strings.Repeat("\xff", 199)} {
		full(t).put(key, be(3, 4)).tells("another key", "Last")
		full(t).remove("n").put(key, be(3, 4)).tells("another key alone", "Last")
	}
	for _, wrong := range []string{"", "\x03", be(3, 3), be(3, 5), be(3, 8), be(3, 4) + "\x00", "\x00" + be(3, 4), be(0, 4), be(maxRuns+1, 4), "\xff\xff\xff\xff"} {
		full(t).put("n", wrong).tells("no run", "Last")
	}
	for _, n := range []int{1, 2, 255, 256, 65536, maxRuns - 1, maxRuns} {
		x := opened(t).last(n)
		x.look()
		if got, e := settle.Last(x.d); got != n || e != api.OK {
			t.Error(n, got, e)
		}
	}
}

// P23.1: what is no token, no run or no version is ErrArg, ahead of all; a version of which nothing stands there is ErrRiskVersion.
func TestArguments(t *testing.T) {
	broken := full(t).put("t", "").put("e", "").put("d", "").put("t"+a, "").put("t"+a[:7], "").put("e"+be(1, 4), "").put("d"+be(1, 8)+"d", "")
	for _, x := range []*both{opened(t), full(t), broken} {
		for _, token := range noTokens() {
			if l, e := settle.Taps(x.d, token); len(l) != 0 || e != api.ErrArg {
				t.Errorf("Taps %q: %v, %d", token, l, e)
			}
		}
		for _, n := range []int{0, -1, math.MinInt, maxRuns + 1, 1 << 32, 1<<32 + 1, math.MaxInt} {
			if l, e := settle.Ledger(x.d, n); len(l) != 0 || e != api.ErrArg {
				t.Errorf("Ledger %d: %v, %d", n, l, e)
			}
		}
		for _, n := range []int{0, -1, math.MinInt} {
			if delta, e := settle.Delta(x.d, n); !sameDelta(delta, api.Delta{}) || e != api.ErrArg {
				t.Errorf("Delta %d: %v, %d", n, delta, e)
			}
		}
		for _, n := range []int{4, 256, 1 << 32, math.MaxInt} {
			if delta, e := settle.Delta(x.d, n); !sameDelta(delta, api.Delta{}) || e != api.ErrRiskVersion {
				t.Errorf("Delta %d: %v, %d", n, delta, e)
			}
		}
		x.look()
	}
	x := opened(t)
	for _, n := range []int{1, maxRuns - 1, maxRuns} {
		x.entry(0, api.Entry{Run: n, Token: a, Amount: n})
		if l, e := settle.Ledger(x.d, n); e != api.OK || !slices.Equal(l, []api.Entry{{Run: n, Token: a, Amount: n}}) {
			t.Error(n, l, e)
		}
	}
	for _, n := range []int{1, 1 << 40, math.MaxInt} {
		x.delta(api.Delta{Version: n, Add: []string{c}})
		if delta, e := settle.Delta(x.d, n); e != api.OK || !sameDelta(delta, api.Delta{Version: n, Add: []string{c}}) {
			t.Error(n, delta, e)
		}
	}
	x.look()
}

// P23.1: tokens of taps alone, of accounts alone, of both; with many taps; of any bytes; each once, rising.
func TestTokens(t *testing.T) {
	x := opened(t).account("\xff\xff\xff\xff\xff\xff\xff\xff", 0, 0).account(c, 9, 9).account("\x80\x00\x00\x00\x00\x00\x00\x00", 0, 0)
	x.tap(many(b, 300)...).tap(many(c, 2)...).tap(taps("\x00\x00\x00\x00\x00\x00\x00\x00", journey)...).tap(taps("\xc3\xa4\xff\xff\xff\xff\xff\xff", journey)...)
	want := []string{"\x00\x00\x00\x00\x00\x00\x00\x00", b, c, "\x80\x00\x00\x00\x00\x00\x00\x00", "\xc3\xa4\xff\xff\xff\xff\xff\xff", "\xff\xff\xff\xff\xff\xff\xff\xff"}
	same(t, "Tokens", want, api.OK)(settle.Tokens(x.d))
	x.look()
	same(t, "Tokens", []string{a, z}, api.OK)(settle.Tokens(opened(t).account(a, 0, 0).account(z, 0, 0).d))
	same(t, "Tokens", []string{a, z}, api.OK)(settle.Tokens(opened(t).tap(taps(z, journey)...).tap(taps(a, journey)...).d))
	same(t, "Tokens", numbered(0, 1500), api.OK)(settle.Tokens(ofMany(t, 1500).d))
}

// ofMany is a draft of so many tokens, with accounts and taps by turns.
func ofMany(t *testing.T, n int) *both {
	x := opened(t)
	for i, token := range numbered(0, n) {
		if i%3 != 0 {
			x.account(token, 0, 0)
		}
		if i%3 != 1 {
			x.tap(taps(token, "0 Mon 08:00 bus 9")...)
		}
	}
	return x
}

// P23.1: a token's taps, and none of those beside it; in the order of time, device and counter.
func TestTaps(t *testing.T) {
	beside := []string{"\xfe\xff\xff\xff\xff\xff\xff\xff", "\xff\xff\xff\xff\xff\xff\xff\xfe", "\xff\xff\xff\xff\xff\xff\xff\xff", "aaaaaaa`", a, "aaaaaaab", "aaaaaaa\xff", "aaaaaab\x00", "aaaaaa\xff\xff", "aaaaab\x00\x00", "\x00\x00\x00\x00\x00\x00\x00\x00", "\x00\x00\x00\x00\x00\x00\x00\x01"}
	x := opened(t)
	for i, token := range beside {
		x.tap(many(token, 1+i)...)
	}
	for i, token := range beside {
		same(t, "Taps", many(token, 1+i), api.OK)(settle.Taps(x.d, token))
	}
	x.look()
	order := []api.Tap{
		{Device: 65535, Counter: 1<<32 - 1, Token: z, Kind: in, Place: 65535, Time: 0}, {Device: 1, Counter: 300, Token: z, Kind: bus, Place: 1000, Time: 255}, {Device: 1, Counter: 1 << 31, Token: z, Kind: out, Place: 1, Time: 255},
		{Device: 300, Counter: 1, Token: z, Kind: out, Place: 1, Time: 255}, {Device: 1, Counter: 1, Token: z, Kind: out, Place: 1, Time: 256}, {Device: 1, Counter: 1, Token: z, Kind: out, Place: 1, Time: maxTime},
	}
	for _, i := range []int{3, 0, 5, 2, 4, 1} {
		x.tap(order[i])
	}
	same(t, "Taps", order, api.OK)(settle.Taps(x.d, z))
}

// P23.1: what a store has that was committed is told like what a draft alone has; what a draft took away is not there.
func TestCommitted(t *testing.T) {
	x := committed(t, full(t).slow)
	x.tells("committed", "")
	x.remove("n").remove("r").remove("a"+z).remove("e"+be(3, 4)+be(2, 4)).remove("d"+be(2, 8)).put("e"+be(2, 4)+be(0, 4), "").tells("changed", "Ledger 2")
	x.account("mmmmmmmm", 7, 0).tap(many("mmmmmmmm", 3)...).last(3).list(9, z).tells("changed more", "Ledger 2")
	x.put("ammmmmmmm", "").tells("an account that is none", "Tokens, Accounts, Ledger 2")
}
