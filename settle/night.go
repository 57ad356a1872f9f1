package settle

import (
	"math"

	"farebox/api"
	"farebox/charge"
	"farebox/debt"
	"farebox/record"
	"farebox/refund"
	"farebox/risk"
	"farebox/store"
	"farebox/tariff"
)

// night is a run as it is reckoned: nothing of it stands in the draft yet.
type night struct {
	run     int
	book    *debt.Book
	answers []bool // the acquirer's that are left
	entries []api.Entry
	listed  []string // the tokens of the next risk list
	delta   api.Delta
}

// reckoned is a run over what a draft has. The first look at which something may not be gives it up, so the order of the looks is that of the errors.
func reckoned(d *store.Draft, run int, t api.Tariff, l []api.Outage, answers []bool) *night {
	last, list := must(Last(d)), must(List(d))
	accounts, tokens := must(Accounts(d)), must(Tokens(d))
	giveUpIf(run != last+1 || run > api.MaxRuns, api.ErrSettled)
	giveUpIf(list.Version == math.MaxInt, api.ErrRiskVersion)
	look(tariff.Right(t))
	look(refund.Right(l))
	giveUpIf(len(tokens) > api.MaxTokens, api.ErrLong)
	n := &night{run: run, book: must(debt.Open(accounts)), answers: answers}
	for _, token := range tokens {
		taps := must(Taps(d, token))
		n.settle(token, must(charge.Charge(t, l, taps)))
	}
	n.listed = n.book.Listed(t.Threshold)
	n.delta = must(risk.Diff(list, n.listed))
	return n
}

// settle charges a token, and asks the acquirer for all that it owes then.
func (n *night) settle(token string, charged int) {
	more, back, e := n.book.Set(token, charged)
	look(e)
	n.note(token, more, false)
	n.note(token, -back, true)
	if owed := n.book.Debt(token); owed > 0 && n.answer() {
		look(n.book.Pay(token, owed))
		n.note(token, owed, true)
	}
}

// note puts an entry behind the others; of nothing there is none.
func (n *night) note(token string, amount int, paid bool) {
	if amount != 0 {
		n.entries = append(n.entries, api.Entry{Run: n.run, Token: token, Amount: amount, Paid: paid})
	}
}

// answer is the acquirer's next one; who answers no more says no.
func (n *night) answer() bool {
	if len(n.answers) == 0 {
		return false
	}
	next := n.answers[0]
	n.answers = n.answers[1:]
	return next
}

// lay lays all that was reckoned into a draft.
func (n *night) lay(d *store.Draft) {
	for _, a := range n.book.Accounts() {
		put(d, accountKey(a), a, record.Account)
	}
	for place, x := range n.entries {
		put(d, entryKey(n.run, place), x, record.Entry)
	}
	put(d, deltaKey(n.delta.Version), n.delta, record.Delta)
	put(d, listLetter, api.Delta{Version: n.delta.Version, Add: n.listed}, record.Delta)
	d.Put(lastLetter, number(n.run, runSize))
}

// put lays what may be under its key: so there is no error that could be told.
func put[T any](d *store.Draft, key string, x T, write func(T) ([]byte, api.Errno)) {
	b, _ := write(x)
	d.Put(key, string(b))
}
