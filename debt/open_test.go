package debt_test

import (
	"math"
	"slices"
	"testing"

	"farebox/api"
	"farebox/debt"
)

// P22.1: a new book has no accounts, whatever it is asked; each call on it.
func TestNew(t *testing.T) {
	x := empty(t)
	x.accountsAre()
	for _, token := range append(noTokens(), a) {
		x.noAccount(token)
		x.payIs(token, 1, api.ErrDebt)
		x.payIs(token, 0, api.ErrDebt)
	}
	for _, n := range edges() {
		x.listedAre(n)
	}
	x.setFails("x", 1, api.ErrDebt)
	x.setFails(a, -1, api.ErrDebt)
	x.setIs(a, 0, 0, 0)
	x.accountsAre(account(a, 0, 0))
	empty(t).setIs(a, 5, 5, 0)
	empty(t).accountsAre()
}

// P22.1: a book of no accounts, of one, of some.
func TestOpen(t *testing.T) {
	open(t).accountsAre()
	open(t, []api.Account{}...).setIs(a, 5, 5, 0)
	x := open(t, account(a, 1, 1))
	x.accountsAre(account(a, 1, 1))
	x.accountIs(a, 1, 1)
	l := []api.Account{account("aaaaaaa\x00", 7, 0), account(a, 0, 0), account("aaaaaaa\x7f", 9, 3), account("aaaaaaa\x80", most, most), account("\xff\x00\x00\x00\x00\x00\x00\x00", most, 0), account("\xff\xff\xff\xff\xff\xff\xff\xff", most, 1)}
	x = open(t, l...)
	x.accountsAre(l...)
	x.payIs(a, 1, api.ErrDebt)
	x.payIs("\xff\xff\xff\xff\xff\xff\xff\xff", most-1, api.OK)
	x.setIs("aaaaaaa\x7f", 2, -7, 1)
}

// P22.1: at most 1000 accounts; of more nothing else is looked at.
func TestOpenMany(t *testing.T) {
	for _, n := range []int{999, 1000} {
		l := charged(numbered(0, n))
		open(t, l...).accountsAre(l...)
	}
	l := charged(numbered(0, 1001))
	refused(t, api.ErrLong, l...)
	for _, i := range []int{0, 1, 500, 999, 1000} {
		wrong := slices.Clone(l)
		wrong[i].Paid = -1
		refused(t, api.ErrLong, wrong...)
		wrong = slices.Clone(l)
		wrong[i] = l[0]
		refused(t, api.ErrLong, wrong...)
	}
	refused(t, api.ErrLong, make([]api.Account, 1001)...)
	refused(t, api.ErrRecord, make([]api.Account, 1000)...)
	refused(t, api.ErrLong, charged(numbered(0, 5000))...)
}

// wrong are accounts that may not be.
func wrong() []api.Account {
	l := []api.Account{{}, account(b, 5, 6), account(b, 0, 1), account(b, most, most+1), account(b, 5, math.MaxInt), account(b, math.MaxInt, math.MaxInt), account(b, math.MinInt, math.MinInt), account(b, -1, -1), account(b, -1, -2), account(b, -5, 0), account(b, 0, math.MinInt), account(b, math.MaxInt, math.MinInt), account(b, math.MinInt, math.MaxInt)}
	for _, token := range []string{"", "b", "bbbbbbb", "bbbbbbbbb", b + b, "bbbbbbb\u20ac"} {
		l = append(l, account(token, 0, 0), account(token, 5, 3))
	}
	for _, n := range edges() {
		if n < 0 || n > most {
			l = append(l, account(b, n, 0), account(b, most, n), account(b, n, n))
		}
	}
	return l
}

// rightBesides are the ones beside them that may be.
func rightBesides() []api.Account {
	l := []api.Account{account(b, 5, 5), account(b, 5, 4), account(b, 1, 1), account(b, 0, 0), account(b, 1, 0), account(b, most, most), account(b, most, most-1), account(b, most-1, most-1), account(b, most, 0), account(b, most, 1)}
	for _, token := range []string{"bbbbbb\u00e9", "bbbbb\u20ac", "b\x00bbbbbb", "bbbbbbb\x00", "b       ", "bbbbbbb\xff"} {
		l = append(l, account(token, 5, 3))
	}
	return l
}

// P22.1: each account is one that may be, at each place.
func TestOpenRecords(t *testing.T) {
	for _, one := range wrong() {
		refused(t, api.ErrRecord, one)
		refused(t, api.ErrRecord, one, account(c, 1, 0))
		refused(t, api.ErrRecord, account(a, 1, 0), one)
		refused(t, api.ErrRecord, account(a, 1, 0), one, account(c, 1, 0))
		refused(t, api.ErrRecord, account(a, 1, 0), one, one)
	}
	for _, one := range rightBesides() {
		open(t, one)
		open(t, one, account(c, 1, 0))
		open(t, account(a, 1, 0), one)
		open(t, account(a, 1, 0), one, account(c, 1, 0)).accountsAre(account(a, 1, 0), one, account(c, 1, 0))
	}
	for _, i := range []int{0, 1, 499, 998, 999} {
		l := charged(numbered(0, 1000))
		l[i].Paid = l[i].Charged + 1
		refused(t, api.ErrRecord, l...)
		l[i].Paid = l[i].Charged
		open(t, l...)
	}
}

// P22.1: each Token is behind the one ahead, by its bytes.
func TestOpenOrder(t *testing.T) {
	tokens := []string{"\x00\x00\x00\x00\x00\x00\x00\x00", "\x00\x00\x00\x00\x00\x00\x00\x01", "\x00\x00\x00\x00\x00\x00\x01\x00", "Aaaaaaaa", a, "aaaaaaab", b, "b\x7fbbbbbb", "b\x80bbbbbb", "b\xffbbbbbb", "\x7fbbbbbbb", "\x80bbbbbbb", "\x80bbbbbb\xff", "\xff\xff\xff\xff\xff\xff\xff\xfe", "\xff\xff\xff\xff\xff\xff\xff\xff"}
	for i, first := range tokens {
		for k, second := range tokens {
			if l := []api.Account{account(first, 5, 3), account(second, 5, 3)}; i < k {
				open(t, l...).accountsAre(l...)
			} else {
				refused(t, api.ErrDebt, l...)
			}
		}
	}
	open(t, charged(tokens)...)
	for i := 1; i < len(tokens); i++ {
		l := charged(tokens)
		l[i].Token = tokens[i-1]
		refused(t, api.ErrDebt, l...)
		l = charged(tokens)
		l[i], l[i-1] = l[i-1], l[i]
		refused(t, api.ErrDebt, l...)
	}
	for _, i := range []int{1, 2, 500, 999} {
		l := charged(numbered(0, 1000))
		l[i].Token = l[i-1].Token
		refused(t, api.ErrDebt, l...)
		l[i].Token = l[0].Token
		refused(t, api.ErrDebt, l...)
	}
}

// P22.1: at each byte of a token, one less, as much, and one more than the one ahead has there.
func TestOpenOrderByBytes(t *testing.T) {
	for at := range 8 {
		for _, n := range []byte{1, 2, 'a', 126, 127, 128, 129, 254} {
			first, less, more := []byte(a), []byte(a), []byte(a)
			first[at], less[at], more[at] = n, n-1, n+1
			for k := at + 1; k < 8; k++ { // what stands behind tells nothing any more
				less[k], more[k] = 255, 0
			}
			refused(t, api.ErrDebt, account(string(first), 5, 3), account(string(less), 5, 3))
			refused(t, api.ErrDebt, account(string(first), 5, 3), account(string(first), 5, 3))
			open(t, account(string(first), 5, 3), account(string(more), 5, 3))
		}
	}
}

// P22.1, W4: from the front the first account with a fault, and of that one whether it may be.
func TestOpenOrderOfErrors(t *testing.T) {
	for _, one := range wrong() {
		refused(t, api.ErrRecord, account(a, 1, 0), one, account(a, 1, 0))
		refused(t, api.ErrRecord, one, account(b, 1, 0), account(a, 1, 0))
		refused(t, api.ErrDebt, account(c, 1, 0), account(a, 1, 0), one)
		refused(t, api.ErrDebt, account(a, 1, 0), account(a, 1, 0), one)
		refused(t, api.ErrRecord, account(c, 1, 0), one) // both in one
		refused(t, api.ErrRecord, account(c, 1, 0), one, account(a, 1, 0))
	}
	refused(t, api.ErrRecord, account(a, 1, 0), account(a, 1, 2))
	refused(t, api.ErrRecord, account(b, 1, 0), account("a", 1, 0))
	refused(t, api.ErrDebt, account(b, 1, 0), account(a, 1, 0), account(c, 1, 2))
}

// P22.1, W3: with an error there is no book, and one that was opened ahead is as it was.
func TestOpenErrorsChangeNothing(t *testing.T) {
	x := open(t, account(a, 5, 3))
	for _, l := range [][]api.Account{make([]api.Account, 1001), {account(a, 3, 5)}, {account(b, 1, 0), account(a, 1, 0)}} {
		if book, e := debt.Open(l); book != nil || e == api.OK {
			t.Error(book, e)
		}
		x.look()
	}
}
