package debt_test

import (
	"math"
	"math/rand"
	"testing"

	"farebox/api"
)

// P22.1 to P22.4: the chapter's examples.
func TestExamples(t *testing.T) {
	x := empty(t)
	x.setIs(a, 500, 500, 0)
	x.payIs(a, 200, api.OK)
	x.accountIs(a, 500, 200)
	x.listedAre(299, a)
	x.listedAre(300)
	x.setIs(a, 100, -400, 100)
	x.accountIs(a, 100, 100)
	x.payIs(a, 1, api.ErrDebt)
	x.payIs(b, 1, api.ErrDebt)
	x.setFails("x", 1, api.ErrDebt)
	x.setFails(a, -1, api.ErrDebt)
	x.accountsAre(account(a, 100, 100))
}

// P22.2: in whatever order accounts are laid, they are told rising.
func TestRising(t *testing.T) {
	rnd := rand.New(rand.NewSource(221))
	tokens := []string{"\x00\x00\x00\x00\x00\x00\x00\x00", "Aaaaaaaa", a, "aaaaaaab", "b\x7fbbbbbb", "b\x80bbbbbb", "\xffbbbbbbb", "\xff\xff\xff\xff\xff\xff\xff\xff"}
	for range 200 {
		x := empty(t)
		for _, i := range rnd.Perm(len(tokens)) {
			x.setIs(tokens[i], 100+i, 100+i, 0)
		}
		for i, one := range x.book.Accounts() {
			if one != account(tokens[i], 100+i, 0) {
				t.Fatalf("account %d: %v", i, one)
			}
		}
		x.listedAre(99, tokens...)
		x.listedAre(103, tokens[4:]...)
		x.listedAre(106, tokens[7])
	}
	x := empty(t)
	for i := 999; i >= 0; i-- {
		x.set(numbered(i, 1)[0], i)
	}
	x.look()
	x.listedAre(499, numbered(500, 500)...)
}

// P22.2: accounts and debts of tokens that are there, and of other texts.
func TestAccount(t *testing.T) {
	x := open(t, account(a, 500, 200), account(c, 7, 7))
	x.accountIs(a, 500, 200)
	x.accountIs(c, 7, 7)
	for _, token := range append(noTokens(), b, "aaaaaaab", "aaaaaaa\x00", "AAAAAAAA", "zzzzzzzz") {
		x.noAccount(token)
	}
	x.setIs(b, 0, 0, 0)
	x.accountIs(b, 0, 0)
}

// P22.2: thresholds below the debts, at each of them, above, and as small and great as a number is.
func TestListed(t *testing.T) {
	x := open(t, account(a, 500, 200), account(b, 300, 0), account(c, 7, 7), account("dddddddd", 301, 0), account("eeeeeeee", most, 0), account("ffffffff", 0, 0))
	all := []string{a, b, c, "dddddddd", "eeeeeeee", "ffffffff"}
	for _, n := range []int{math.MinInt, math.MinInt + 1, -most, -2, -1} {
		x.listedAre(n, all...)
	}
	for _, n := range []int{0, 1, 298, 299} {
		x.listedAre(n, a, b, "dddddddd", "eeeeeeee")
	}
	x.listedAre(300, "dddddddd", "eeeeeeee")
	for _, n := range []int{301, 302, 1 << 31, most - 1} {
		x.listedAre(n, "eeeeeeee")
	}
	for _, n := range []int{most, most + 1, math.MaxInt - 1, math.MaxInt} {
		x.listedAre(n)
	}
	x = open(t, account(a, 0, 0), account(b, most, most))
	x.listedAre(-1, a, b)
	x.listedAre(0)
}

// P22.3: what Set refuses: no token, and what cannot be charged.
func TestSetErrors(t *testing.T) {
	for _, x := range []*both{empty(t), open(t, account(a, 500, 200)), open(t, charged(numbered(0, 1000))...)} {
		for _, token := range noTokens() {
			for _, n := range []int{-1, 0, 1, most, most + 1} {
				x.setFails(token, n, api.ErrDebt)
			}
		}
		for _, token := range []string{a, b, numbered(0, 1)[0], "\xff\xff\xff\xff\xff\xff\xff\xff"} {
			for _, n := range []int{math.MinInt, math.MinInt + 1, -most - 1, -most, -1 << 31, -2, -1, most + 1, most + 2, math.MaxInt - 1, math.MaxInt} {
				x.setFails(token, n, api.ErrDebt)
			}
		}
	}
}

// P22.3: of a new account, all is more; of one that stands, what is more or less than it was.
func TestSetCharged(t *testing.T) {
	x := empty(t)
	x.setIs(a, 0, 0, 0)
	x.setIs(a, 1, 1, 0)
	x.setIs(a, most, most-1, 0)
	x.setIs(a, most, 0, 0)
	x.setIs(a, most-1, -1, 0)
	x.setIs(a, 0, 1-most, 0)
	x.setIs(b, most, most, 0)
	x.setIs(c, 1, 1, 0)
	x.setIs("dddddddd", most-1, most-1, 0)
	x.accountsAre(account(a, 0, 0), account(b, most, 0), account(c, 1, 0), account("dddddddd", most-1, 0))
}

// P22.3: what was paid stays, as long as it is no more than what is charged; else it is given back.
func TestSetPaid(t *testing.T) {
	for _, x := range []struct{ charged, more, back, paid int }{{most, most - 500, 0, 200}, {700, 200, 0, 200}, {501, 1, 0, 200}, {500, 0, 0, 200}, {499, -1, 0, 200}, {201, -299, 0, 200}, {200, -300, 0, 200}, {199, -301, 1, 199}, {1, -499, 199, 1}, {0, -500, 200, 0}} {
		y := open(t, account(a, 500, 200), account(b, 9, 8))
		y.setIs(a, x.charged, x.more, x.back)
		y.accountIs(a, x.charged, x.paid)
		y.setIs(a, x.charged, 0, 0)
		y.accountIs(a, x.charged, x.paid)
		y.setIs(a, 500, 500-x.charged, 0) // what was given back is not paid again
		y.accountsAre(account(a, 500, x.paid), account(b, 9, 8))
	}
	y := open(t, account(a, most, most))
	y.setIs(a, 0, -most, most)
	y.setIs(a, most, most, 0)
	y.accountIs(a, most, 0)
	y.payIs(a, most, api.OK)
	y.setIs(a, most-1, -1, 1)
	y.accountIs(a, most-1, most-1)
}

// P22.3: with 1000 accounts there is no new one, but those that stand are set.
func TestSetMany(t *testing.T) {
	x := open(t, charged(numbered(0, 999))...)
	x.setFails("", 1, api.ErrDebt)
	x.setIs(a, 5, 5, 0)
	x.setFails(b, 5, api.ErrLong)
	x.setFails(b, 0, api.ErrLong)
	x.setFails(b, most, api.ErrLong)
	x.setFails("\x00\x00\x00\x00\x00\x00\x00\x00", 5, api.ErrLong)
	x.setFails(b, -1, api.ErrDebt) // W4: ahead of their number
	x.setFails(b, most+1, api.ErrDebt)
	x.setFails("b", 5, api.ErrDebt)
	x.setIs(a, 0, -5, 0)
	x.setFails(b, 5, api.ErrLong) // an account of nothing is one
	x.setIs(numbered(998, 1)[0], 0, -104, 3)
	x.setIs(numbered(0, 1)[0], most, most-100, 0)
	x.payIs(a, 1, api.ErrDebt)
	x.payIs(b, 1, api.ErrDebt)
	x.payIs(numbered(1, 1)[0], 100, api.OK)
	y := empty(t)
	for i, token := range numbered(0, 1002) {
		if _, _, e := y.set(token, i); (e == api.OK) != (i < 1000) {
			t.Fatal(i, e)
		}
	}
	y.look()
	y.setFails(a, 1, api.ErrLong)
}

// P22.4: what Pay refuses.
func TestPayErrors(t *testing.T) {
	x := open(t, account(a, 500, 200), account(b, 7, 7), account(c, 0, 0))
	for _, token := range append(noTokens(), "zzzzzzzz", "aaaaaaab", "AAAAAAAA", b, c) { // no account, or no debt
		for _, n := range edges() {
			x.payIs(token, n, api.ErrDebt)
		}
	}
	for _, n := range []int{math.MinInt, math.MinInt + 1, -most, -300, -200, -1, 0, 301, 302, 500, 501, most, most + 1, math.MaxInt - 1, math.MaxInt} {
		x.payIs(a, n, api.ErrDebt)
	}
	x.accountsAre(account(a, 500, 200), account(b, 7, 7), account(c, 0, 0))
}

// P22.4: a debt that is paid in parts, or at once, to the last penny.
func TestPay(t *testing.T) {
	x := open(t, account(a, 500, 200), account(b, 500, 200))
	x.payIs(a, 1, api.OK)
	x.accountIs(a, 500, 201)
	x.payIs(a, 300, api.ErrDebt)
	x.payIs(a, 298, api.OK)
	x.payIs(a, 2, api.ErrDebt)
	x.payIs(a, 1, api.OK)
	x.accountIs(a, 500, 500)
	x.payIs(a, 1, api.ErrDebt)
	x.accountIs(b, 500, 200)
	x.payIs(b, 300, api.OK)
	x.accountsAre(account(a, 500, 500), account(b, 500, 500))
	x.setIs(a, 501, 1, 0)
	x.payIs(a, 2, api.ErrDebt)
	x.payIs(a, 1, api.OK)
	x = empty(t)
	x.setIs(a, most, most, 0)
	x.payIs(a, most+1, api.ErrDebt)
	x.payIs(a, most-1, api.OK)
	x.payIs(a, 2, api.ErrDebt)
	x.payIs(a, 1, api.OK)
	x.accountIs(a, most, most)
}
