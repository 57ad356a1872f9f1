package risk_test

import (
	"math/rand"
	"slices"
	"testing"

	"farebox/api"
	"farebox/risk"
)

const mark = "markmark"

// roomy is a list with spare room that is filled by a mark.
func roomy(l []string) []string { return append(slices.Clone(l), mark, mark, mark)[:len(l)] }

// watched is a list that was handed in, and what it was, as far as its memory goes.
type watched struct{ list, was []string }

func watch(l []string) watched { return watched{l, slices.Clone(l[:cap(l)])} }

func (w watched) isAsItWas() bool { return slices.Equal(w.list[:cap(w.list)], w.was) }

// fill puts another mark everywhere, into the spare room too.
func fill(l []string) {
	l = l[:cap(l)]
	for i := range l {
		l[i] = "zzzzzzzz"
	}
}

// holds calls with lists that have spare room, and spoils all memory of what is answered and of what was handed in, list by list: nothing else changes by it.
func holds(t *testing.T, handed [][]string, call func([][]string) [][]string) {
	t.Helper()
	for i := range handed {
		handed[i] = roomy(handed[i])
	}
	var seen []watched
	for _, l := range handed {
		seen = append(seen, watch(l))
	}
	answers := append(call(handed), call(handed)...)
	var want [][]string
	for _, l := range answers {
		want = append(want, slices.Clone(l))
	}
	for _, w := range seen {
		if !w.isAsItWas() {
			t.Fatal("what was handed in was changed")
		}
	}
	for i := range answers {
		fill(answers[i])
		if !slices.EqualFunc(answers[i+1:], want[i+1:], slices.Equal) {
			t.Fatal("two lists that were answered share memory")
		}
	}
	for _, w := range seen {
		if !w.isAsItWas() {
			t.Fatal("an answer shares memory with what was handed in")
		}
	}
	again := call(handed)
	for _, l := range handed {
		fill(l)
	}
	if !slices.EqualFunc(again, want[:len(again)], slices.Equal) {
		t.Fatal("what was handed in is kept, or an answer's memory was used again")
	}
}

// someHanded are three lists, mostly such as may be.
func someHanded(rnd *rand.Rand) (api.RiskList, api.Delta, api.Delta) {
	most := []int{0, 1, 5, 30}[rnd.Intn(4)]
	l := someList(rnd, most)
	d := someDelta(rnd, l, most)
	m, _ := slowApply(l, d)
	next := someDelta(rnd, m, most)
	switch rnd.Intn(9) {
	case 0:
		d.Add, d.Gone = d.Gone, d.Add
	case 1:
		d.Add = append(d.Add, "abc")
	case 2:
		l.Tokens = append(l.Tokens, l.Tokens...)
	case 3:
		d.Gone, next.Gone = nil, nil
	}
	return l, d, next
}

// P13.5: what is handed in to Apply, Join and Right is neither changed, nor its spare room, nor kept; what is answered is new memory.
func TestMemory(t *testing.T) {
	rnd := rand.New(rand.NewSource(135))
	for range 2000 {
		l, d, next := someHanded(rnd)
		holds(t, [][]string{l.Tokens, d.Add, d.Gone}, func(h [][]string) [][]string {
			risk.Right(api.RiskList{Version: l.Version, Tokens: h[0]})
			risk.Has(api.RiskList{Version: l.Version, Tokens: h[0]}, "abcdefgh")
			got, _ := risk.Apply(api.RiskList{Version: l.Version, Tokens: h[0]}, api.Delta{Version: d.Version, Add: h[1], Gone: h[2]})
			return [][]string{got.Tokens}
		})
		holds(t, [][]string{d.Add, d.Gone, next.Add, next.Gone}, func(h [][]string) [][]string {
			got, _ := risk.Join(api.Delta{Version: d.Version, Add: h[0], Gone: h[1]}, api.Delta{Version: next.Version, Add: h[2], Gone: h[3]})
			return [][]string{got.Add, got.Gone}
		})
	}
}

// P13.5: the same of Diff: the wanted tokens stay in the order in which they came, though they are told in another.
func TestDiffMemory(t *testing.T) {
	rnd := rand.New(rand.NewSource(136))
	for range 2000 {
		l, _, _ := someHanded(rnd)
		tokens := append(someTokens(rnd, 20), l.Tokens[:rnd.Intn(len(l.Tokens)+1)]...)
		rnd.Shuffle(len(tokens), func(i, j int) { tokens[i], tokens[j] = tokens[j], tokens[i] })
		holds(t, [][]string{l.Tokens, tokens}, func(h [][]string) [][]string {
			got, _ := risk.Diff(api.RiskList{Version: l.Version, Tokens: h[0]}, h[1])
			return [][]string{got.Add, got.Gone}
		})
	}
}

// P13.5: lists that share memory, handed in to one call, are taken as they are.
func TestSharedLists(t *testing.T) {
	all := of("a b c d e f")
	l := api.RiskList{Version: 1, Tokens: all[:3]}
	applyIs(t, l, api.Delta{Version: 2, Add: all[3:5], Gone: all[:2]}, list(2, "c d e"))
	diffIs(t, l, all[1:4], delta(2, "d", "a"))
	joinIs(t, api.Delta{Version: 1, Add: all[:3]}, api.Delta{Version: 2, Add: all[3:5], Gone: all[1:3]}, delta(2, "a d e", ""))
	if !slices.Equal(all, of("a b c d e f")) {
		t.Error("what was handed in was changed")
	}
}
