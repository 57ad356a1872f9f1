package risk_test

import (
	"math/rand"
	"slices"
	"testing"

	"farebox/api"
)

// P13.3: what the wanted tokens have beyond the list, and the other way round, in whatever order they come, some twice.
func TestDiff(t *testing.T) {
	l := list(1, "a c")
	diffIs(t, l, of("c b c"), delta(2, "b", "a"))
	diffIs(t, l, of("b c"), delta(2, "b", "a"))
	diffIs(t, l, of("a c"), delta(2, "", ""))
	diffIs(t, l, of("c a c a a"), delta(2, "", ""))
	diffIs(t, l, nil, delta(2, "", "a c"))
	diffIs(t, l, []string{}, delta(2, "", "a c"))
	diffIs(t, l, of("e d A"), delta(2, "A d e", "a c"))
	diffIs(t, api.RiskList{}, nil, delta(1, "", ""))
	diffIs(t, api.RiskList{}, of("a"), delta(1, "a", ""))
	diffIs(t, list(last-1, "a"), of("b"), delta(last, "b", "a"))
}

// P13.3: a list that may not be, whatever is wanted.
func TestDiffOfWrongList(t *testing.T) {
	for _, tokens := range [][]string{nil, of("a"), {"abc"}, numbered(0, 1001)} {
		diffFails(t, list(-1, ""), tokens, api.ErrRiskVersion)
		diffFails(t, list(0, "a"), tokens, api.ErrRiskVersion)
		diffFails(t, list(1, "c a"), tokens, api.ErrRiskToken)
		diffFails(t, list(last, "c a"), tokens, api.ErrRiskToken)
		diffFails(t, api.RiskList{Version: last, Tokens: numbered(0, 1001)}, tokens, api.ErrLong)
	}
}

// P13.3: behind the last version there is none.
func TestDiffOfLastVersion(t *testing.T) {
	for _, tokens := range [][]string{nil, of("a"), {"abc"}, numbered(0, 1001)} {
		diffFails(t, list(last, ""), tokens, api.ErrRiskVersion)
		diffFails(t, list(last, "a"), tokens, api.ErrRiskVersion)
	}
}

// P13.3: each one that is wanted is a token, wherever it stands.
func TestDiffTokens(t *testing.T) {
	for _, s := range []string{"", "b", "aaaaaaa", "aaaaaaaaa"} {
		for at := range 4 {
			diffFails(t, list(1, "a c"), slices.Insert(of("c a d"), at, s), api.ErrRiskToken)
		}
		diffFails(t, list(1, "a c"), append(numbered(0, 1001), s), api.ErrRiskToken) // W4: ahead of their number
	}
}

// P13.3: at most 1000 unlike ones; those that are twice count once.
func TestDiffLength(t *testing.T) {
	for _, l := range []api.RiskList{{}, list(1, "a c"), {Version: 7, Tokens: numbered(500, 1000)}} {
		for _, many := range []int{999, 1000} {
			tokens := slices.Repeat(numbered(0, many), 3)
			rand.New(rand.NewSource(133)).Shuffle(len(tokens), func(i, j int) { tokens[i], tokens[j] = tokens[j], tokens[i] })
			d, e := diff(t, l, tokens)
			if e != api.OK {
				t.Fatal(many, e)
			}
			applyIs(t, l, d, api.RiskList{Version: l.Version + 1, Tokens: numbered(0, many)})
		}
		diffFails(t, l, numbered(0, 1001), api.ErrLong)
		diffFails(t, l, slices.Repeat(numbered(0, 1001), 2), api.ErrLong)
	}
	diffIs(t, list(1, ""), slices.Repeat(of("a"), 5000), delta(2, "a", ""))
}
