package debt_test

import (
	"math/rand"
	"slices"
	"strings"
	"sync"
	"testing"

	"farebox/api"
	"farebox/debt"
)

// withRoom is a list with spare room that is filled by a mark.
func withRoom[T any](l []T, mark T) []T {
	return append(slices.Clone(l), mark, mark, mark)[:len(l)]
}

// fill puts a mark everywhere, into the spare room too.
func fill[T any](l []T, mark T) {
	l = l[:cap(l)]
	for i := range l {
		l[i] = mark
	}
}

var (
	markAccount  = account("markmark", 77, 7)
	otherAccount = account("otherone", 88, 8)
)

// P22.5: what is handed to Open is not changed, nor its spare room; written over behind, it changes no book.
func TestOpenMemory(t *testing.T) {
	rnd := rand.New(rand.NewSource(231))
	for range 500 {
		l := withRoom(someAccounts(rnd, 8), markAccount)
		was := slices.Clone(l[:cap(l)])
		x, y := open(t, l...), open(t, l...)
		for range 10 {
			x.set(someToken(rnd), someAmount(rnd))
			x.pay(someToken(rnd), someAmount(rnd))
		}
		if !slices.Equal(l[:cap(l)], was) {
			t.Fatalf("%s became %s", short(was), short(l[:cap(l)]))
		}
		y.look()
		fill(l, otherAccount)
		x.look()
		y.look()
	}
}

// P22.5, W6: what lies in the spare room is not asked; where Open refuses, nothing that was handed in is changed.
func TestOpenSpareRoom(t *testing.T) {
	open(t, withRoom([]api.Account{}, api.Account{})...).accountsAre()
	open(t, withRoom([]api.Account{account(b, 1, 0)}, account(a, 1, 2))...).accountsAre(account(b, 1, 0))
	open(t, withRoom(charged(numbered(0, 1000)), account(a, 1, 2))...)
	for _, l := range [][]api.Account{charged(numbered(0, 1001)), {account(a, 1, 2)}, {account(b, 1, 0), account(a, 1, 0)}} {
		l = withRoom(l, markAccount)
		was := slices.Clone(l[:cap(l)])
		if _, e := debt.Open(l); e == api.OK || !slices.Equal(l[:cap(l)], was) {
			t.Errorf("%d, %s", e, short(l))
		}
	}
}

// P22.5: answers are new memory: written over, they change neither the book nor each other.
func TestAnswersAreNew(t *testing.T) {
	rnd := rand.New(rand.NewSource(232))
	for i := range 500 {
		x := open(t, someAccounts(rnd, i%9)...)
		threshold := someAmount(rnd)
		accounts, tokens := x.book.Accounts(), x.book.Listed(threshold)
		accountsAgain, tokensAgain := x.book.Accounts(), x.book.Listed(threshold)
		wantAccounts, wantTokens := slices.Clone(x.slow.rows), x.slow.listed(threshold)
		fill(accounts, markAccount)
		fill(tokens, "markmark")
		if !slices.Equal(accountsAgain, wantAccounts) || !slices.Equal(tokensAgain, wantTokens) {
			t.Fatalf("%s, %q, not %s, %q", short(accountsAgain), tokensAgain, short(wantAccounts), wantTokens)
		}
		x.look()
		x.set(a, someAmount(rnd))
		x.pay(someToken(rnd), 1)
		fill(accountsAgain, otherAccount)
		fill(tokensAgain, "otherone")
		if slices.Contains(accounts[:cap(accounts)], otherAccount) || slices.Contains(tokens[:cap(tokens)], "otherone") {
			t.Fatal("two answers share memory")
		}
		x.look()
	}
}

// P22.5: what was told ahead stays as it was, whatever is done behind.
func TestAnswersStay(t *testing.T) {
	x := open(t, account(a, 500, 200), account(b, 7, 0))
	accounts, tokens := x.book.Accounts(), x.book.Listed(0)
	one, _ := x.book.Account(a)
	x.setIs(a, 100, -400, 100)
	x.payIs(b, 7, api.OK)
	x.setIs(c, 9, 9, 0)
	if !slices.Equal(accounts, []api.Account{account(a, 500, 200), account(b, 7, 0)}) || !slices.Equal(tokens, []string{a, b}) || one != account(a, 500, 200) {
		t.Error(accounts, tokens, one)
	}
	one.Charged = 1
	x.look()
}

// P22.5: two books know nothing of each other, new ones too.
func TestBooksAreApart(t *testing.T) {
	l := []api.Account{account(a, 500, 200)}
	x, y, z, w := open(t, l...), open(t, l...), empty(t), empty(t)
	x.setIs(a, 100, -400, 100)
	z.setIs(a, 9, 9, 0)
	y.accountsAre(account(a, 500, 200))
	w.accountsAre()
	y.payIs(a, 300, api.OK)
	x.accountsAre(account(a, 100, 100))
	z.accountsAre(account(a, 9, 0))
}

// P22.2, P22.3: a token is known by its bytes, wherever they lie.
func TestTokensByBytes(t *testing.T) {
	x := empty(t)
	whole := strings.Repeat("abcdefgh", 3)
	x.setIs(whole[:8], 5, 5, 0)
	x.setIs(whole[8:16], 7, 2, 0)
	x.payIs(string([]byte("abcdefgh")), 7, api.OK)
	x.accountsAre(account("abcdefgh", 7, 7))
}

// W2: what many ask of one book at once is answered to each as if it were alone; likewise many books at once.
func TestAskedAtOnce(t *testing.T) {
	shared := open(t, charged(numbered(0, 200))...)
	accounts, tokens := slices.Clone(shared.slow.rows), shared.slow.listed(100)
	var all sync.WaitGroup
	for seed := range 16 {
		all.Go(func() {
			rnd := rand.New(rand.NewSource(int64(seed)))
			own, told := debt.New(), &slow{}
			for range 100 {
				if !slices.Equal(shared.book.Accounts(), accounts) || !slices.Equal(shared.book.Listed(100), tokens) || shared.book.Debt(a) != 0 {
					t.Error("the shared book is answered otherwise")
					return
				}
				token, n := someToken(rnd), someAmount(rnd)
				more, back, e := own.Set(token, n)
				wantMore, wantBack, wantE := told.set(token, n)
				if more != wantMore || back != wantBack || e != wantE || !slices.Equal(own.Accounts(), told.rows) {
					t.Errorf("Set(%q, %d): %d, %d, %d", token, n, more, back, e)
					return
				}
			}
		})
	}
	all.Wait()
}
