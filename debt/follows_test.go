package debt_test

import (
	"math"
	"math/rand"
	"slices"
	"testing"

	"farebox/api"
	"farebox/debt"
)

// sums are what the answers of a token's calls are together.
type sums struct{ more, paid, back int }

// rows does many calls with a few tokens, and tells of each one what they were together.
func rows(t *testing.T, rnd *rand.Rand, many int) (*both, map[string]sums) {
	t.Helper()
	x, told := empty(t), map[string]sums{}
	var tokens []string
	for range 1 + rnd.Intn(8) {
		tokens = append(tokens, someToken(rnd))
	}
	for range many {
		token := tokens[rnd.Intn(len(tokens))]
		if rnd.Intn(30) == 0 {
			token = noTokens()[rnd.Intn(len(noTokens()))]
		}
		s := told[token]
		if rnd.Intn(2) == 0 {
			more, back, _ := x.set(token, someAmount(rnd))
			s.more, s.back = s.more+more, s.back+back
		} else {
			n := someAmount(rnd)
			if rnd.Intn(3) == 0 {
				n = x.book.Debt(token) + rnd.Intn(3) - 1
			}
			if x.pay(token, n) == api.OK {
				s.paid += n
			}
		}
		told[token] = s
		if rnd.Intn(10) == 0 {
			x.look()
		}
	}
	x.look()
	return x, told
}

// P22.6: no debt is below 0; Charged is what Set told all in all; Paid is what was paid, less what Set told as paid back.
func TestSums(t *testing.T) {
	rnd := rand.New(rand.NewSource(226))
	paid, back := 0, 0
	for range 300 {
		x, told := rows(t, rnd, 60+rnd.Intn(120))
		for token, s := range told {
			one, _ := x.book.Account(token)
			if n := x.book.Debt(token); n < 0 || n != one.Charged-one.Paid || one.Charged != s.more || one.Paid != s.paid-s.back || one.Paid < 0 {
				t.Fatalf("%v, debt %d, told %v", one, n, s)
			}
			paid, back = paid+min(s.paid, 1), back+min(s.back, 1)
		}
	}
	if paid < 1000 || back < 800 {
		t.Error("only so many paid, and were given back:", paid, back)
	}
}

// P22.7: who is set to the same again is answered 0 and 0, and nothing changes.
func TestSetAgain(t *testing.T) {
	rnd := rand.New(rand.NewSource(227))
	for range 200 {
		x, _ := rows(t, rnd, 60)
		was := x.book.Accounts()
		for _, one := range was {
			x.setIs(one.Token, one.Charged, 0, 0)
		}
		x.accountsAre(was...)
	}
}

// P22.7: a token is listed just if its debt is more than the threshold; who pays all is not, from 0 on.
func TestWhoIsListed(t *testing.T) {
	rnd := rand.New(rand.NewSource(228))
	for range 200 {
		x, _ := rows(t, rnd, 60)
		for _, one := range x.book.Accounts() {
			n := x.book.Debt(one.Token)
			for _, threshold := range []int{math.MinInt, -1, 0, 1, n - 1, n, n + 1, someAmount(rnd)} {
				if slices.Contains(x.book.Listed(threshold), one.Token) != (n > threshold) {
					t.Fatalf("%v, threshold %d: %q", one, threshold, x.book.Listed(threshold))
				}
			}
			if n > 0 {
				x.payIs(one.Token, n, api.OK)
			}
			for _, threshold := range []int{0, 1, someAmount(rnd)} {
				if threshold >= 0 && slices.Contains(x.book.Listed(threshold), one.Token) {
					t.Fatalf("%v paid all, threshold %d", one, threshold)
				}
			}
		}
		x.listedAre(0)
	}
}

// P22.1, P22.2: a book that is opened of another one's accounts is like it.
func TestOpenOfAccounts(t *testing.T) {
	rnd := rand.New(rand.NewSource(229))
	for range 300 {
		x, _ := rows(t, rnd, 60)
		y := open(t, x.book.Accounts()...)
		y.accountsAre(x.book.Accounts()...)
		token := someToken(rnd)
		if l := x.book.Accounts(); len(l) > 0 && rnd.Intn(2) == 0 {
			token = l[rnd.Intn(len(l))].Token
		}
		more, back, e := x.set(token, 5)
		if yMore, yBack, yE := y.set(token, 5); more != yMore || back != yBack || e != yE {
			t.Fatal(more, back, e, yMore, yBack, yE)
		}
		y.look()
	}
}

// P22.1: many rows of accounts, now and then such as may not be.
func TestOpenAny(t *testing.T) {
	rnd := rand.New(rand.NewSource(230))
	told := map[api.Errno]int{}
	for range 4000 {
		l := someAccounts(rnd, 8)
		for range rnd.Intn(3) {
			if len(l) > 1 {
				i, k := rnd.Intn(len(l)), rnd.Intn(len(l))
				l[i].Token = l[k].Token
			}
			if len(l) > 0 && rnd.Intn(2) == 0 {
				i := rnd.Intn(len(l))
				l[i].Charged, l[i].Paid = someAmount(rnd), someAmount(rnd)
			}
		}
		_, want := slowOpen(l)
		if _, e := debt.Open(l); e != want {
			t.Fatalf("Open(%s): %d, not %d", short(l), e, want)
		}
		if told[want]++; want == api.OK {
			open(t, l...)
		}
	}
	if told[api.OK] < 500 || told[api.ErrRecord] < 500 || told[api.ErrDebt] < 500 {
		t.Error("only so many of each kind:", told)
	}
}

// FuzzBook looks for calls that are answered otherwise than the chapter tells.
func FuzzBook(f *testing.F) {
	f.Add(a, 500, 200, a, 500, 200, 100, 300)
	f.Add(a, 500, 200, b, 7, 7, 8, -1)
	f.Add(b, 1, 0, a, 1, 0, 0, 1)
	f.Add("a", 1, 2, "", -1, most, most+1, 0)
	f.Fuzz(func(t *testing.T, first string, firstCharged, firstPaid int, second string, secondCharged, secondPaid, charged, amount int) {
		one, two := account(first, firstCharged, firstPaid), account(second, secondCharged, secondPaid)
		for _, l := range [][]api.Account{nil, {one}, {two}, {one, two}, {two, one}} {
			if _, e := slowOpen(l); e != api.OK {
				refused(t, e, l...)
				continue
			}
			x := open(t, l...)
			for _, token := range []string{first, second} {
				x.pay(token, amount)
				x.set(token, charged)
				x.pay(token, amount)
				x.set(token, amount)
				x.listedAre(amount, x.slow.listed(amount)...)
				x.look()
			}
		}
	})
}
