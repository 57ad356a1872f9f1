package risk_test

import (
	"math/big"
	"sort"

	"farebox/api"
)

// This file tells the chapter slowly, word by word, with sets instead of lists in order, and versions that can't go round.

type set map[string]bool

func setOf(l []string) set {
	s := set{}
	for _, x := range l {
		s[x] = true
	}
	return s
}

// in is a set as a list.
func (s set) in() []string {
	var l []string
	for x := range s {
		l = append(l, x)
	}
	sort.Strings(l)
	return l
}

// slowListed tells whether a list has tokens, rising: it is just its set, in order.
func slowListed(l []string) bool {
	inOrder := setOf(l).in()
	if len(inOrder) != len(l) {
		return false
	}
	for i, x := range l {
		if len(x) != 8 || x != inOrder[i] {
			return false
		}
	}
	return true
}

func slowRight(l api.RiskList) api.Errno {
	if l.Version < 0 {
		return 130
	}
	if l.Version == 0 && len(l.Tokens) != 0 {
		return 130
	}
	if len(l.Tokens) > 1000 {
		return 2
	}
	if !slowListed(l.Tokens) {
		return 131
	}
	return 0
}

// slowMayBe is chapter 8's line of deltas.
func slowMayBe(d api.Delta) bool {
	if d.Version < 1 || len(d.Add) > 1000 || len(d.Gone) > 1000 || !slowListed(d.Add) || !slowListed(d.Gone) {
		return false
	}
	gone := setOf(d.Gone)
	for _, x := range d.Add {
		if gone[x] {
			return false
		}
	}
	return true
}

// slowNext tells whether a version is another one and 1.
func slowNext(version, other int) bool {
	sum := new(big.Int).Add(big.NewInt(int64(other)), big.NewInt(1))
	return sum.Cmp(big.NewInt(int64(version))) == 0
}

func slowApply(l api.RiskList, d api.Delta) (api.RiskList, api.Errno) {
	if e := slowRight(l); e != 0 {
		return api.RiskList{}, e
	}
	if !slowMayBe(d) {
		return api.RiskList{}, 80
	}
	if !slowNext(d.Version, l.Version) {
		return api.RiskList{}, 130
	}
	has := setOf(l.Tokens)
	for _, x := range d.Add {
		if has[x] {
			return api.RiskList{}, 131
		}
	}
	for _, x := range d.Gone {
		if !has[x] {
			return api.RiskList{}, 131
		}
	}
	for _, x := range d.Gone {
		delete(has, x)
	}
	for _, x := range d.Add {
		has[x] = true
	}
	if len(has) > 1000 {
		return api.RiskList{}, 2
	}
	return api.RiskList{Version: d.Version, Tokens: has.in()}, 0
}

func slowDiff(l api.RiskList, tokens []string) (api.Delta, api.Errno) {
	if e := slowRight(l); e != 0 {
		return api.Delta{}, e
	}
	if l.Version == 1<<63-1 {
		return api.Delta{}, 130
	}
	for _, x := range tokens {
		if len(x) != 8 {
			return api.Delta{}, 131
		}
	}
	has, wanted := setOf(l.Tokens), setOf(tokens)
	if len(wanted) > 1000 {
		return api.Delta{}, 2
	}
	add, gone := set{}, set{}
	for x := range wanted {
		if !has[x] {
			add[x] = true
		}
	}
	for x := range has {
		if !wanted[x] {
			gone[x] = true
		}
	}
	return api.Delta{Version: l.Version + 1, Add: add.in(), Gone: gone.in()}, 0
}

func slowJoin(a, b api.Delta) (api.Delta, api.Errno) {
	if !slowMayBe(a) || !slowMayBe(b) {
		return api.Delta{}, 80
	}
	if !slowNext(b.Version, a.Version) {
		return api.Delta{}, 130
	}
	addA, goneA, addB, goneB := setOf(a.Add), setOf(a.Gone), setOf(b.Add), setOf(b.Gone)
	add, gone := set{}, set{}
	for _, l := range [][]string{a.Add, a.Gone, b.Add, b.Gone} {
		for _, x := range l {
			if addA[x] && addB[x] || goneA[x] && goneB[x] {
				return api.Delta{}, 131
			}
			if addA[x] && !goneB[x] || addB[x] && !goneA[x] {
				add[x] = true
			}
			if goneA[x] && !addB[x] || goneB[x] && !addA[x] {
				gone[x] = true
			}
		}
	}
	if len(add) > 1000 || len(gone) > 1000 {
		return api.Delta{}, 2
	}
	return api.Delta{Version: b.Version, Add: add.in(), Gone: gone.in()}, 0
}
