package record_test

import (
	"fmt"
	"math"
	"math/rand"
	"slices"
	"testing"

	"farebox/api"
)

// letters is a token of a letter, eight times.
func letters(s string) string { return s + s + s + s + s + s + s + s }

// many are so many tokens, rising, that begin with a letter.
func many(letter string, n int) []string {
	l := make([]string, n)
	for i := range l {
		l[i] = fmt.Sprintf("%s%07d", letter, i)
	}
	return l
}

// P8.1: the chapter's example; both lists.
func TestDeltaOfTheChapter(t *testing.T) {
	k := deltas()
	k.wantBytes(t, "of the chapter", api.Delta{Version: 1, Add: []string{"aaaaaaaa"}}, []byte{0, 0, 0, 0, 0, 0, 0, 1, 0, 1, 97, 97, 97, 97, 97, 97, 97, 97, 0, 0})
	both := api.Delta{Version: 0x0102030405060708, Add: []string{"bbbbbbbb"}, Gone: []string{"aaaaaaaa", "cccccccc"}}
	k.wantBytes(t, "both", both, []byte("\x01\x02\x03\x04\x05\x06\x07\x08\x00\x01bbbbbbbb\x00\x02aaaaaaaacccccccc"))
	k.wantGood(t, "both", both)
	k.wantBytes(t, "Gone alone", api.Delta{Version: 1, Gone: []string{"aaaaaaaa"}}, []byte("\x00\x00\x00\x00\x00\x00\x00\x01\x00\x00\x00\x01aaaaaaaa"))
	k.wantBytes(t, "nil lists", api.Delta{Version: 1}, []byte{0, 0, 0, 0, 0, 0, 0, 1, 0, 0, 0, 0})
	k.wantBytes(t, "empty lists", api.Delta{Version: 1, Add: []string{}, Gone: []string{}}, []byte{0, 0, 0, 0, 0, 0, 0, 1, 0, 0, 0, 0})
	if api.MaxListed != 1000 {
		t.Error("limit:", api.MaxListed)
	}
}

// P8.1, P8.2: versions at their edges.
func TestDeltaVersions(t *testing.T) {
	for _, n := range []int{1, 2, 255, 256, 1 << 32, 1<<63 - 2, math.MaxInt} {
		deltas().wantGood(t, fmt.Sprint("Version ", n), api.Delta{Version: n, Add: []string{letters("a")}})
	}
	for _, n := range []int{0, -1, -2, -1 << 32, math.MinInt, math.MinInt + 1} {
		deltas().wantWrong(t, fmt.Sprint("Version ", n), api.Delta{Version: n, Add: []string{letters("a")}}, api.ErrRecord, n == 0)
	}
	deltas().wantWrong(t, "zero", api.Delta{}, api.ErrRecord, true)
}

// P8.1, P8.2: how many tokens there may be, in either list and in both.
func TestDeltaCounts(t *testing.T) {
	k := deltas()
	for _, n := range []int{0, 1, 2, 255, 256, 999, 1000} {
		k.wantGood(t, fmt.Sprint("Add of ", n), api.Delta{Version: 1, Add: many("a", n)})
		k.wantGood(t, fmt.Sprint("Gone of ", n), api.Delta{Version: 1, Gone: many("a", n)})
		k.wantGood(t, fmt.Sprint("both of ", n), api.Delta{Version: 1, Add: many("a", n), Gone: many("b", n)})
		k.wantGood(t, fmt.Sprint("both of ", n, ", turned"), api.Delta{Version: 1, Add: many("b", n), Gone: many("a", n)})
	}
	for _, n := range []int{1001, 1002, 2000, 65535, 65536, 65537, 100000} {
		k.wantWrong(t, fmt.Sprint("Add of ", n), api.Delta{Version: 1, Add: many("a", n)}, api.ErrRecord, false)
		k.wantWrong(t, fmt.Sprint("Gone of ", n), api.Delta{Version: 1, Gone: many("a", n)}, api.ErrRecord, false)
	}
	b := deltaBytes(api.Delta{Version: 1, Add: many("a", 1001), Gone: many("b", 1001)})
	k.wantFault(t, "Add of 1001", b, api.ErrWireLong, 8)
	k.wantFault(t, "Gone of 1001", deltaBytes(api.Delta{Version: 1, Add: many("a", 1000), Gone: many("b", 1001)}), api.ErrWireLong, 8+2+8000)
	k.wantFault(t, "Add of 1001, not there", b[:10], api.ErrWireLong, 8)
	k.wantFault(t, "Add of 1001, a count that ends early", b[:9], api.ErrWireShort, 8)
	k.wantFault(t, "Add of 65535", []byte{0, 0, 0, 0, 0, 0, 0, 1, 255, 255}, api.ErrWireLong, 8)
	k.wantFault(t, "Add of 1000, one missing", b[:8+2+8000-1], api.ErrWireLong, 8)
	k.wantFault(t, "Add of 1000, a byte missing", deltaBytes(api.Delta{Version: 1, Add: many("a", 1000)})[:8+2+8000-1], api.ErrWireShort, 8+2+8000-8)
}

// P8.1, P8.2: tokens of another length, in each place.
func TestDeltaTokens(t *testing.T) {
	for _, s := range someTokensOfAnyBytes() {
		deltas().wantGood(t, fmt.Sprintf("Add %q", s), api.Delta{Version: 1, Add: []string{s}})
		deltas().wantGood(t, fmt.Sprintf("Gone %q", s), api.Delta{Version: 1, Gone: []string{s}})
	}
	for _, s := range append(notTokens(), "bbbb", "bbbbbbb", "bbbbbbbbb") {
		for at := range 3 {
			l := []string{letters("\x01"), letters("b"), letters("\xff")}
			l[at] = s
			what := fmt.Sprintf("the token %d of %d bytes", at, len(s))
			deltas().wantWrong(t, what+" in Add", api.Delta{Version: 1, Add: l}, api.ErrRecord, false)
			deltas().wantWrong(t, what+" in Gone", api.Delta{Version: 1, Gone: l}, api.ErrRecord, false)
		}
	}
	// Together as long as two tokens, so that a list of their bytes could be read.
	deltas().wantWrong(t, "seven and nine", api.Delta{Version: 1, Add: []string{"aaaaaaa", "bbbbbbbbb"}}, api.ErrRecord, false)
}

// P8.1, P8.2: tokens that don't rise, by their bytes, at every place.
func TestDeltaRising(t *testing.T) {
	k := deltas()
	in := func(what string, l []string, right bool) {
		t.Helper()
		for name, d := range map[string]api.Delta{"Add": {Version: 1, Add: l}, "Gone": {Version: 1, Gone: l}, "Add beside Gone": {Version: 1, Add: l, Gone: []string{"zzzzzzzy"}}, "Gone beside Add": {Version: 1, Gone: l, Add: []string{"zzzzzzzy"}}} {
			if right {
				k.wantGood(t, name+" "+what, d)
			} else {
				k.wantWrong(t, name+" "+what, d, api.ErrRecord, true)
			}
		}
	}
	in("equal", []string{letters("a"), letters("a")}, false)
	in("falling", []string{letters("b"), letters("a")}, false)
	in("falling by the last byte", []string{"aaaaaaab", "aaaaaaaa"}, false)
	in("rising by the last byte", []string{"aaaaaaaa", "aaaaaaab"}, true)
	in("falling by the first byte", []string{"baaaaaaa", "azzzzzzz"}, false)
	in("rising by the first byte", []string{"azzzzzzz", "baaaaaaa"}, true)
	in("rising beyond 127", []string{letters("\x7f"), letters("\x80"), letters("\xff")}, true)
	in("falling from 128", []string{letters("\x80"), letters("\x7f")}, false)
	in("from 0", []string{letters("\x00"), letters("\x01")}, true)
	for at := range 9 {
		l := many("a", 10)
		l[at] = l[at+1]
		in(fmt.Sprint("equal at ", at), l, false)
		l = many("a", 10)
		l[at], l[at+1] = l[at+1], l[at]
		in(fmt.Sprint("changed about at ", at), l, false)
	}
	back := many("a", 10)
	slices.Reverse(back)
	in("from the end", back, false)
	long := many("a", 1000)
	long[998], long[999] = long[999], long[998]
	in("the last two of 1000 changed about", long, false)
}

// P8.1, P8.2: no token in both lists, wherever it stands in them.
func TestDeltaApart(t *testing.T) {
	k := deltas()
	k.wantWrong(t, "one in both", api.Delta{Version: 1, Add: []string{letters("b")}, Gone: []string{letters("b")}}, api.ErrRecord, true)
	all := many("a", 12)
	var add, gone []string
	for i, s := range all {
		if i%2 == 0 {
			add = append(add, s)
		} else {
			gone = append(gone, s)
		}
	}
	k.wantGood(t, "by turns", api.Delta{Version: 1, Add: add, Gone: gone})
	for _, s := range all {
		l := slices.Compact(slices.Sorted(slices.Values(append(anew(add), s))))
		if !slices.Contains(add, s) {
			k.wantWrong(t, s+" of Gone in Add", api.Delta{Version: 1, Add: l, Gone: gone}, api.ErrRecord, true)
			k.wantWrong(t, s+" of Add in Gone", api.Delta{Version: 1, Add: gone, Gone: l}, api.ErrRecord, true)
		}
	}
	for _, at := range []int{0, 1, 499, 998, 999} {
		add, gone := many("a", 1000), many("b", 1000)
		k.wantWrong(t, fmt.Sprint("long lists, at ", at), api.Delta{Version: 1, Add: add, Gone: append([]string{add[at]}, gone[1:]...)}, api.ErrRecord, true)
		k.wantWrong(t, fmt.Sprint("long lists, of the other one at ", at), api.Delta{Version: 1, Add: append(anew(add[:999]), gone[at]), Gone: gone}, api.ErrRecord, true)
	}
	k.wantWrong(t, "both the same", api.Delta{Version: 1, Add: all, Gone: all}, api.ErrRecord, true)
}

// P8.2: a delta's bytes, cut; a Version that is above 2^63 - 1.
func TestDeltaCut(t *testing.T) {
	b := []byte("\x00\x00\x00\x00\x00\x00\x00\x01\x00\x01aaaaaaaa\x00\x02bbbbbbbbcccccccc")
	for n := range b {
		at := 0
		for _, start := range []int{8, 10, 18, 20, 28} {
			if n >= start {
				at = start
			}
		}
		deltas().wantFault(t, fmt.Sprint(n, " bytes"), b[:n], api.ErrWireShort, at)
	}
	b[0] = 128
	deltas().wantFault(t, "Version 2^63 and 1", b, api.ErrWireForm, 0)
	deltas().wantFault(t, "the same, cut", b[:9], api.ErrWireForm, 0)
	deltas().wantFault(t, "the same, one more", append(b, 0), api.ErrWireForm, 0)
}

// P8.1: an entry's bytes.
func TestEntry(t *testing.T) {
	k := entries()
	k.wantBytes(t, "back", api.Entry{Run: 0x01020304, Token: "abcdefgh", Amount: -2, Paid: true}, []byte{1, 2, 3, 4, 97, 98, 99, 100, 101, 102, 103, 104, 255, 255, 255, 255, 255, 255, 255, 254, 1})
	k.wantBytes(t, "charged", api.Entry{Run: 7, Token: "abcdefgh", Amount: 300}, []byte{0, 0, 0, 7, 97, 98, 99, 100, 101, 102, 103, 104, 0, 0, 0, 0, 0, 0, 1, 44, 0})
	if api.MaxRuns != 1<<31 || api.MaxMoney != 1<<53 {
		t.Error("limits:", api.MaxRuns, api.MaxMoney)
	}
}

// P8.1, P8.2: an entry's fields at their edges, paid and not.
func TestEntryEdges(t *testing.T) {
	k := entries()
	for _, paid := range []bool{false, true} {
		x := api.Entry{Run: 7, Token: "abcdefgh", Amount: 300, Paid: paid}
		for _, x.Run = range []int{1, 2, 255, 256, 1<<31 - 1, 1 << 31} {
			k.wantGood(t, fmt.Sprint("Run ", x.Run), x)
		}
		for _, x.Run = range append(far(), 0, 1<<31+1, 1<<32-1, 1<<32) {
			k.wantWrong(t, fmt.Sprint("Run ", x.Run), x, api.ErrRecord, x.Run >= 0 && x.Run < 1<<32)
		}
		x.Run = 7
		for _, x.Amount = range []int{1, -1, 2, -2, 255, -256, 1 << 32, -1 << 32, 1<<53 - 1, 1 << 53, -1<<53 + 1, -1 << 53} {
			k.wantGood(t, fmt.Sprint("Amount ", x.Amount), x)
		}
		for _, x.Amount = range []int{0, 1<<53 + 1, 1<<53 + 2, -1<<53 - 1, -1<<53 - 2, 1 << 62, math.MinInt, math.MinInt + 1, math.MaxInt, math.MaxInt - 1} {
			k.wantWrong(t, fmt.Sprint("Amount ", x.Amount), x, api.ErrRecord, true)
		}
		x.Amount = 300
		for _, x.Token = range someTokensOfAnyBytes() {
			k.wantGood(t, fmt.Sprintf("Token %q", x.Token), x)
		}
		for _, x.Token = range notTokens() {
			k.wantWrong(t, fmt.Sprintf("Token of %d bytes", len(x.Token)), x, api.ErrRecord, false)
		}
	}
	k.wantWrong(t, "zero", api.Entry{}, api.ErrRecord, false)
}

// P8.2: an entry's bytes, cut; a Bool that is neither.
func TestEntryCut(t *testing.T) {
	k := entries()
	b := entryBytes(api.Entry{Run: 7, Token: "abcdefgh", Amount: 300, Paid: true})
	for n := range b {
		at := 0
		for _, start := range []int{4, 12, 20} {
			if n >= start {
				at = start
			}
		}
		k.wantFault(t, fmt.Sprint(n, " bytes"), b[:n], api.ErrWireShort, at)
	}
	for n := 2; n < 256; n++ {
		b[20] = byte(n)
		k.wantFault(t, fmt.Sprint("Paid ", n), b, api.ErrWireForm, 20)
		k.wantFault(t, fmt.Sprint("Paid ", n, ", one more"), append(anew(b), 0), api.ErrWireForm, 20)
	}
	k.wantFault(t, "noughts, Paid 255", append(make([]byte, 20), 255), api.ErrWireForm, 20)
}

// P8.1, P8.2: an account's fields at their edges.
func TestAccount(t *testing.T) {
	k := accounts()
	x := api.Account{Token: "abcdefgh", Charged: 258, Paid: 3}
	k.wantBytes(t, "as it is", x, []byte{97, 98, 99, 100, 101, 102, 103, 104, 0, 0, 0, 0, 0, 0, 1, 2, 0, 0, 0, 0, 0, 0, 0, 3})
	for _, n := range []int{0, 1, 2, 255, 256, 1 << 32, 1<<53 - 1, 1 << 53} {
		for _, x.Paid = range []int{0, n / 2, max(0, n-1), n} {
			x.Charged = n
			k.wantGood(t, fmt.Sprint(x), x)
		}
		for _, x.Paid = range []int{-1, -2, -n - 1, n + 1, n + 2, 1<<53 + 1, 1 << 62, math.MinInt, math.MaxInt} {
			k.wantWrong(t, fmt.Sprint(x), x, api.ErrRecord, x.Paid >= 0)
		}
	}
	for _, n := range []int{-1, -2, math.MinInt, 1<<53 + 1, 1<<53 + 2, 1 << 62, math.MaxInt} {
		for _, x.Paid = range []int{math.MinInt, -2, -1, 0, 1, 1 << 53, n - 1, n} {
			x.Charged = n
			k.wantWrong(t, fmt.Sprint(x), x, api.ErrRecord, n >= 0 && x.Paid >= 0)
		}
	}
	x = api.Account{Token: "abcdefgh", Charged: 258, Paid: 3}
	for _, x.Token = range someTokensOfAnyBytes() {
		k.wantGood(t, fmt.Sprintf("Token %q", x.Token), x)
	}
	for _, x.Token = range notTokens() {
		k.wantWrong(t, fmt.Sprintf("Token of %d bytes", len(x.Token)), x, api.ErrRecord, false)
	}
	k.wantWrong(t, "zero", api.Account{}, api.ErrRecord, false)
	k.wantGood(t, "nothing charged", api.Account{Token: "abcdefgh"})
}

// P8.2: an account's bytes, cut; numbers above 2^63 - 1, the first one ahead.
func TestAccountCut(t *testing.T) {
	k := accounts()
	b := accountBytes(api.Account{Token: "abcdefgh", Charged: 258, Paid: 3})
	for n := range b {
		k.wantFault(t, fmt.Sprint(n, " bytes"), b[:n], api.ErrWireShort, n/8*8)
	}
	for _, at := range []int{16, 8} {
		for _, n := range []byte{128, 129, 255} {
			b[at] = n
			k.wantFault(t, fmt.Sprint(n, " at ", at), b, api.ErrWireForm, at)
			k.wantFault(t, fmt.Sprint(n, " at ", at, ", one more"), append(anew(b), 1), api.ErrWireForm, at)
		}
	}
	k.wantFault(t, "Charged above, cut behind it", b[:16], api.ErrWireForm, 8)
	k.wantFault(t, "Charged above, cut within it", b[:15], api.ErrWireShort, 8)
}

// P8.1, P8.2: the chapter's examples.
func TestOutagesOfTheChapter(t *testing.T) {
	k := outages()
	k.wantFault(t, "From equal to To", []byte{0, 1, 0, 1, 0, 0, 0, 5, 0, 0, 0, 5}, api.ErrRecord, -1)
	k.wantFault(t, "one, not there", []byte{0, 1}, api.ErrWireShort, 2)
	k.wantFault(t, "none, and more", []byte{0, 0, 7}, api.ErrWireMore, 2)
	k.wantBytes(t, "nil", []api.Outage(nil), []byte{0, 0})
	k.wantBytes(t, "empty", []api.Outage{}, []byte{0, 0})
	k.wantRead(t, "none", []byte{0, 0}, []api.Outage(nil), api.Fault{})
	k.wantBytes(t, "two", []api.Outage{{Station: 258, From: 3, To: 0x04050607}, {Station: 9, From: 8, To: 9}}, []byte{0, 2, 1, 2, 0, 0, 0, 3, 4, 5, 6, 7, 0, 9, 0, 0, 0, 8, 0, 0, 0, 9})
	if api.MaxOutages != 100 {
		t.Error("limit:", api.MaxOutages)
	}
}

// P8.1, P8.2: each field of an outage at its edges, alone, first, in the middle and last.
func TestOutageEdges(t *testing.T) {
	k := outages()
	for _, places := range [][2]int{{1, 0}, {3, 0}, {3, 1}, {3, 2}} {
		l := slices.Repeat([]api.Outage{{Station: 5, From: 10, To: 20}}, places[0])
		o := &l[places[1]]
		good := func(x api.Outage) {
			t.Helper()
			*o = x
			k.wantGood(t, fmt.Sprint(places, x), l)
		}
		wrong := func(x api.Outage) {
			t.Helper()
			*o = x
			fits := min(x.Station, x.From, x.To) >= 0 && x.Station < 1<<16 && max(x.From, x.To) < 1<<32
			k.wantWrong(t, fmt.Sprint(places, x), l, api.ErrRecord, fits)
		}
		for _, n := range []int{1, 2, 255, 256, 1001, 65534, 65535} {
			good(api.Outage{Station: n, From: 10, To: 20})
		}
		for _, n := range append(far(), 0, 65536, 65537, 1<<16+5, 1<<32) {
			wrong(api.Outage{Station: n, From: 10, To: 20})
		}
		for _, x := range [][2]int{{0, 1}, {0, 1 << 31}, {19, 20}, {1<<31 - 1, 1 << 31}, {255, 256}, {65535, 65536}} {
			good(api.Outage{Station: 5, From: x[0], To: x[1]})
		}
		for _, x := range [][2]int{{0, 0}, {1, 0}, {5, 5}, {6, 5}, {20, 10}, {1 << 31, 1 << 31}, {1 << 31, 1<<31 - 1}, {1 << 31, 0}, {-1, 0}, {-1, 5}, {-2, -1}, {0, 1<<31 + 1}, {5, 1<<32 - 1}, {5, 1 << 32}, {1 << 31, 1<<31 + 1}, {1<<31 + 1, 1<<31 + 2}, {1 << 32, 1<<32 + 1}, {math.MinInt, 5}, {5, math.MaxInt}, {math.MinInt, math.MaxInt}, {math.MaxInt, math.MinInt}, {math.MinInt, math.MinInt}, {math.MaxInt, math.MaxInt}} {
			wrong(api.Outage{Station: 5, From: x[0], To: x[1]})
		}
		wrong(api.Outage{})
	}
}

// P8.1, P8.2: how many outages there may be; they may stand in any order, twice, one over the other.
func TestOutagesCounts(t *testing.T) {
	k := outages()
	one := []api.Outage{{Station: 5, From: 10, To: 20}}
	for _, n := range []int{0, 1, 2, 99, 100} {
		k.wantGood(t, fmt.Sprint(n), slices.Repeat(one, n))
	}
	for _, n := range []int{101, 102, 255, 256, 65535, 65536, 65637, 100000} {
		k.wantWrong(t, fmt.Sprint(n), slices.Repeat(one, n), api.ErrRecord, false)
	}
	b := outagesBytes(slices.Repeat(one, 101))
	k.wantFault(t, "101", b, api.ErrWireLong, 0)
	k.wantFault(t, "101, not there", b[:2], api.ErrWireLong, 0)
	k.wantFault(t, "half of a count", b[:1], api.ErrWireShort, 0)
	k.wantFault(t, "65535", []byte{255, 255}, api.ErrWireLong, 0)
	k.wantFault(t, "none at all", nil, api.ErrWireShort, 0)
	k.wantFault(t, "100, a byte missing", outagesBytes(slices.Repeat(one, 100))[:1001], api.ErrWireShort, 998)
	k.wantGood(t, "from the end, twice", []api.Outage{{Station: 9, From: 30, To: 40}, {Station: 5, From: 10, To: 20}, {Station: 5, From: 10, To: 20}, {Station: 5, From: 0, To: 1 << 31}})
}

// P8.2: the bytes of outages, cut.
func TestOutagesCut(t *testing.T) {
	b := outagesBytes([]api.Outage{{Station: 5, From: 10, To: 20}, {Station: 6, From: 10, To: 20}})
	for n := range b {
		at := 0
		for _, start := range []int{2, 4, 8, 12, 14, 18} {
			if n >= start {
				at = start
			}
		}
		outages().wantFault(t, fmt.Sprint(n, " bytes"), b[:n], api.ErrWireShort, at)
	}
}

// P8.1: records of edges, more than one of them wrong.
func TestOthersOfEdges(t *testing.T) {
	edges := []int{math.MinInt, -1 << 53, -1<<53 - 1, -1, 0, 1, 2, 65535, 65536, 1<<31 - 1, 1 << 31, 1<<31 + 1, 1<<32 - 1, 1 << 32, 1<<53 - 1, 1 << 53, 1<<53 + 1, math.MaxInt}
	texts := []string{"", "aaaaaaa", "aaaaaaaaa"}
	rnd := rand.New(rand.NewSource(4))
	number := func() int { return edges[rnd.Intn(len(edges))] }
	text := func() string { return append(texts, many("a", 9)...)[rnd.Intn(12)] }
	for range 20000 {
		d := api.Delta{Version: number()}
		for range rnd.Intn(3) {
			d.Add = append(d.Add, text())
		}
		for range rnd.Intn(3) {
			d.Gone = append(d.Gone, text())
		}
		for _, x := range []struct {
			k kind
			x any
		}{{deltas(), d}, {entries(), api.Entry{Run: number(), Token: text(), Amount: number(), Paid: rnd.Intn(2) == 0}}, {accounts(), api.Account{Token: text(), Charged: number(), Paid: number()}}, {outages(), []api.Outage{{Station: number(), From: number(), To: number()}}}} {
			if e := x.k.wrong(x.x); e == api.OK {
				x.k.wantGood(t, "of edges", x.x)
			} else {
				x.k.wantWrong(t, "of edges", x.x, e, false)
			}
		}
	}
}
