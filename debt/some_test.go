package debt_test

import (
	"fmt"
	"math"
	"math/rand"
	"slices"
	"testing"

	"farebox/api"
	"farebox/debt"
)

// The tokens of most tests, rising.
const (
	a = "aaaaaaaa"
	b = "bbbbbbbb"
	c = "cccccccc"
)

const most = 1 << 53 // what a token is charged at most

func account(token string, charged, paid int) api.Account {
	return api.Account{Token: token, Charged: charged, Paid: paid}
}

// noTokens are texts that no account has.
func noTokens() []string {
	return []string{"", "a", "aaaaaaa", "aaaaaaaaa", a + a, "\x00\x00\x00\x00\x00\x00\x00", "\xff\xff\xff\xff\xff\xff\xff\xff\xff"}
}

// numbered are so many tokens, rising, from a number on.
func numbered(from, many int) []string {
	var l []string
	for n := from; n < from+many; n++ {
		l = append(l, fmt.Sprintf("%08d", n))
	}
	return l
}

// charged are accounts of these tokens, of which some paid a part.
func charged(tokens []string) []api.Account {
	var l []api.Account
	for i, token := range tokens {
		l = append(l, account(token, 100+i%7, i%5))
	}
	return l
}

// edges are numbers at which something may change, wherever they are asked.
func edges() []int {
	return []int{math.MinInt, math.MinInt + 1, -most - 1, -most, -1 << 31, -2, -1, 0, 1, 2, 1 << 31, most - 1, most, most + 1, math.MaxInt - 1, math.MaxInt}
}

// short tells accounts, without most of many.
func short(l ...any) string {
	s := fmt.Sprintf("%q", l)
	return s[:min(len(s), 400)]
}

// both are a book and the chapter told slowly, with which the same is done; behind each call all is held against each other.
type both struct {
	t    *testing.T
	book *debt.Book
	slow *slow
}

func empty(t *testing.T) *both {
	t.Helper()
	x := &both{t, debt.New(), &slow{}}
	x.look()
	return x
}

// open is that of accounts which may be.
func open(t *testing.T, l ...api.Account) *both {
	t.Helper()
	want, wantE := slowOpen(l)
	book, e := debt.Open(l)
	if e != wantE || e != api.OK {
		t.Fatalf("Open(%s): %d, not %d", short(l), e, wantE)
	}
	x := &both{t, book, want}
	x.look()
	return x
}

// refused are accounts that Open refuses.
func refused(t *testing.T, want api.Errno, l ...api.Account) {
	t.Helper()
	if _, e := slowOpen(l); e != want {
		t.Fatalf("Open(%s): told slowly %d, not %d", short(l), e, want)
	}
	if book, e := debt.Open(l); e != want || book != nil {
		t.Errorf("Open(%s): %d, %v, not %d", short(l), e, book != nil, want)
	}
}

// look holds all that the book tells against the chapter told slowly.
func (x *both) look() {
	x.t.Helper()
	if got := x.book.Accounts(); !slices.Equal(got, x.slow.rows) {
		x.t.Fatalf("Accounts(): %s, not %s", short(got), short(x.slow.rows))
	}
	asked := append(noTokens(), a, b, c, "zzzzzzzz")
	thresholds := edges()
	for _, row := range x.slow.rows {
		owed := row.Charged - row.Paid
		asked = append(asked, row.Token, row.Token[:7], row.Token+"a")
		if len(thresholds) < 50 {
			thresholds = append(thresholds, owed-1, owed, owed+1)
		}
	}
	for _, token := range asked {
		x.lookAt(token)
	}
	for _, n := range thresholds {
		if got, want := x.book.Listed(n), x.slow.listed(n); !slices.Equal(got, want) {
			x.t.Fatalf("Listed(%d): %s, not %s, of %s", n, short(got), short(want), short(x.slow.rows))
		}
	}
}

// lookAt does so with what it tells of one token.
func (x *both) lookAt(token string) {
	x.t.Helper()
	want, wantIs := x.slow.account(token)
	if got, is := x.book.Account(token); got != want || is != wantIs {
		x.t.Fatalf("Account(%q): %v, %v, not %v, %v", token, got, is, want, wantIs)
	}
	if got, want := x.book.Debt(token), x.slow.debt(token); got != want {
		x.t.Fatalf("Debt(%q): %d, not %d", token, got, want)
	}
}

// set is Set with both, quietly where there are many accounts to look at.
func (x *both) set(token string, charged int) (int, int, api.Errno) {
	x.t.Helper()
	was := slices.Clone(x.slow.rows)
	wantMore, wantBack, wantE := x.slow.set(token, charged)
	more, back, e := x.book.Set(token, charged)
	if more != wantMore || back != wantBack || e != wantE {
		x.t.Fatalf("Set(%q, %d) of %s: %d, %d, %d, not %d, %d, %d", token, charged, short(was), more, back, e, wantMore, wantBack, wantE)
	}
	x.lookAt(token)
	return more, back, e
}

func (x *both) pay(token string, amount int) api.Errno {
	x.t.Helper()
	was := slices.Clone(x.slow.rows)
	want := x.slow.pay(token, amount)
	e := x.book.Pay(token, amount)
	if e != want {
		x.t.Fatalf("Pay(%q, %d) of %s: %d, not %d", token, amount, short(was), e, want)
	}
	x.lookAt(token)
	return e
}

// Each of these holds a call against what the test says, too, and then all that the book tells.

func (x *both) setIs(token string, charged, wantMore, wantBack int) {
	x.t.Helper()
	if more, back, e := x.set(token, charged); more != wantMore || back != wantBack || e != api.OK {
		x.t.Errorf("Set(%q, %d): %d, %d, %d, not %d, %d", token, charged, more, back, e, wantMore, wantBack)
	}
	x.look()
}

func (x *both) setFails(token string, charged int, want api.Errno) {
	x.t.Helper()
	if more, back, e := x.set(token, charged); more != 0 || back != 0 || e != want {
		x.t.Errorf("Set(%q, %d): %d, %d, %d, not %d", token, charged, more, back, e, want)
	}
	x.look()
}

func (x *both) payIs(token string, amount int, want api.Errno) {
	x.t.Helper()
	if e := x.pay(token, amount); e != want {
		x.t.Errorf("Pay(%q, %d): %d, not %d", token, amount, e, want)
	}
	x.look()
}

func (x *both) accountIs(token string, charged, paid int) {
	x.t.Helper()
	if got, is := x.book.Account(token); !is || got != account(token, charged, paid) || x.book.Debt(token) != charged-paid {
		x.t.Errorf("Account(%q): %v, %v, debt %d, not %d, %d", token, got, is, x.book.Debt(token), charged, paid)
	}
}

func (x *both) noAccount(token string) {
	x.t.Helper()
	if got, is := x.book.Account(token); is || got != (api.Account{}) || x.book.Debt(token) != 0 {
		x.t.Errorf("Account(%q): %v, %v, debt %d", token, got, is, x.book.Debt(token))
	}
}

func (x *both) listedAre(threshold int, want ...string) {
	x.t.Helper()
	if got := x.book.Listed(threshold); !slices.Equal(got, want) {
		x.t.Errorf("Listed(%d): %s, not %s", threshold, short(got), short(want))
	}
}

func (x *both) accountsAre(want ...api.Account) {
	x.t.Helper()
	if got := x.book.Accounts(); !slices.Equal(got, want) {
		x.t.Errorf("Accounts(): %s, not %s", short(got), short(want))
	}
}

// someToken has few bytes to choose from, the lowest and the highest among them, so that tokens meet, and begin alike.
func someToken(rnd *rand.Rand) string {
	token := []byte(a)
	for range 2 {
		token[rnd.Intn(8)] = []byte{0, 'a', 'b', 127, 128, 255}[rnd.Intn(6)]
	}
	return string(token)
}

// someAmount is mostly small, so that amounts meet.
func someAmount(rnd *rand.Rand) int {
	switch rnd.Intn(12) {
	case 0:
		return edges()[rnd.Intn(len(edges()))]
	case 1:
		return rnd.Intn(most + 1)
	}
	return rnd.Intn(12) - 1
}

// someAccounts may be.
func someAccounts(rnd *rand.Rand, many int) []api.Account {
	var tokens []string
	for range rnd.Intn(many + 1) {
		tokens = append(tokens, someToken(rnd))
	}
	slices.Sort(tokens)
	var l []api.Account
	for _, token := range slices.Compact(tokens) {
		all := min(max(someAmount(rnd), 0), most)
		l = append(l, account(token, all, rnd.Intn(all+1)))
	}
	return l
}
