package risk_test

import (
	"math"
	"testing"

	"farebox/api"
)

// P13.2: the list of the delta's version, with the tokens but Gone, and Add.
func TestApply(t *testing.T) {
	l := list(1, "a c")
	applyIs(t, l, delta(2, "b", "a"), list(2, "b c"))
	applyIs(t, l, delta(2, "", ""), list(2, "a c"))
	applyIs(t, l, delta(2, "b", ""), list(2, "a b c"))
	applyIs(t, l, delta(2, "A d", ""), list(2, "A a c d"))
	applyIs(t, l, delta(2, "", "c"), list(2, "a"))
	applyIs(t, l, delta(2, "", "a c"), list(2, ""))
	applyIs(t, l, delta(2, "b d", "a c"), list(2, "b d"))
	applyIs(t, api.RiskList{}, delta(1, "", ""), list(1, ""))
	applyIs(t, api.RiskList{}, delta(1, "a b", ""), list(1, "a b"))
	applyIs(t, list(last-1, "a"), delta(last, "b", "a"), list(last, "b"))
	applyIs(t, api.RiskList{Version: 1, Tokens: []string{}}, api.Delta{Version: 2, Add: []string{}, Gone: []string{}}, list(2, ""))
}

// P13.2: a list that may not be, whatever the delta is.
func TestApplyToWrongList(t *testing.T) {
	for _, d := range []api.Delta{{}, delta(2, "b", ""), delta(-1, "b a", "a"), {Version: 2, Add: make([]string, 1001)}} {
		applyFails(t, list(-1, ""), d, api.ErrRiskVersion)
		applyFails(t, list(0, "a"), d, api.ErrRiskVersion)
		applyFails(t, list(1, "c a"), d, api.ErrRiskToken)
		applyFails(t, list(1, "a a"), d, api.ErrRiskToken)
		applyFails(t, api.RiskList{Version: 1, Tokens: numbered(0, 1001)}, d, api.ErrLong)
	}
}

// wrongDeltas may not be, though their version is the one behind 1, where they have one.
func wrongDeltas() []api.Delta {
	return []api.Delta{
		delta(0, "b", ""), delta(-1, "b", ""), delta(math.MinInt, "b", ""), {},
		delta(2, "d b", ""), delta(2, "b b", ""), delta(2, "", "c a"), delta(2, "", "a a"),
		delta(2, "b", "b"), delta(2, "a b", "a"), delta(2, "b d", "a d"),
		{Version: 2, Add: []string{"b"}}, {Version: 2, Gone: []string{"a"}}, {Version: 2, Add: []string{""}}, {Version: 2, Gone: []string{"aaaaaaaaa"}},
		{Version: 2, Add: numbered(0, 1001)}, {Version: 2, Gone: numbered(0, 1001)},
	}
}

// P13.2: a delta that may not be.
func TestApplyWrongDelta(t *testing.T) {
	for _, d := range wrongDeltas() {
		applyFails(t, list(1, "a c"), d, api.ErrRecord)
		applyFails(t, list(5, "a c"), d, api.ErrRecord) // W4: ahead of the version
	}
}

// P13.2: the delta's version is the list's and 1, and no other; behind the last one there is none.
func TestApplyVersions(t *testing.T) {
	versions := []int{1, 2, 3, 4, 1<<31 - 1, 1 << 31, 1<<31 + 1, last - 2, last - 1, last}
	for _, version := range append(versions, 0) {
		for _, next := range versions {
			if d := delta(next, "b", ""); next-1 == version {
				applyIs(t, list(version, ""), d, list(next, "b"))
			} else {
				applyFails(t, list(version, ""), d, api.ErrRiskVersion)
			}
		}
	}
	applyFails(t, list(1, "a c"), delta(3, "b", ""), api.ErrRiskVersion)
	applyFails(t, list(last, "a"), delta(1, "b", "a"), api.ErrRiskVersion)
}

// P13.2: Add is not in the list, Gone is.
func TestApplyTokens(t *testing.T) {
	l := list(1, "b d f")
	for _, x := range []struct{ add, gone string }{{"b", ""}, {"d", ""}, {"f", ""}, {"a b", ""}, {"f g", ""}, {"a d g", ""}, {"", "a"}, {"", "c"}, {"", "g"}, {"", "a b"}, {"", "b g"}, {"", "b c d f"}, {"b", "d"}, {"a", "c"}, {"b", "c"}} {
		applyFails(t, l, delta(2, x.add, x.gone), api.ErrRiskToken)
	}
	applyFails(t, api.RiskList{}, delta(1, "", "a"), api.ErrRiskToken)
	applyFails(t, list(1, "a c"), delta(2, "a", ""), api.ErrRiskToken)
	applyFails(t, list(1, "a c"), delta(2, "", "b"), api.ErrRiskToken)
}

// P13.2: at most 1000 tokens stay, however many go and come.
func TestApplyLength(t *testing.T) {
	full := api.RiskList{Version: 1, Tokens: numbered(0, 1000)}
	applyIs(t, api.RiskList{}, api.Delta{Version: 1, Add: numbered(0, 1000)}, full)
	applyFails(t, full, delta(2, "a", ""), api.ErrLong)
	applyIs(t, full, api.Delta{Version: 2, Add: of("a"), Gone: numbered(0, 1)}, api.RiskList{Version: 2, Tokens: append(numbered(1, 999), of("a")...)})
	applyIs(t, full, api.Delta{Version: 2, Gone: full.Tokens}, list(2, ""))
	applyIs(t, full, api.Delta{Version: 2, Add: numbered(1000, 1000), Gone: full.Tokens}, api.RiskList{Version: 2, Tokens: numbered(1000, 1000)})
	applyFails(t, full, api.Delta{Version: 2, Add: numbered(1000, 1000), Gone: numbered(0, 999)}, api.ErrLong)
	applyFails(t, full, api.Delta{Version: 2, Add: numbered(1000, 1000)}, api.ErrLong)
	almost := api.RiskList{Version: 1, Tokens: numbered(0, 998)}
	applyIs(t, almost, api.Delta{Version: 2, Add: numbered(998, 2)}, api.RiskList{Version: 2, Tokens: numbered(0, 1000)})
	applyFails(t, almost, api.Delta{Version: 2, Add: numbered(998, 3)}, api.ErrLong)
}

// P13.2 and W4: the order of what is told where several things are wrong.
func TestApplyOrder(t *testing.T) {
	full := api.RiskList{Version: 1, Tokens: numbered(0, 1000)}
	both := api.Delta{Version: 2, Add: numbered(1, 1000)} // too many, and some are there
	applyFails(t, full, both, api.ErrRiskToken)
	both.Version = 3
	applyFails(t, full, both, api.ErrRiskVersion)
	both.Gone = numbered(1, 1)
	applyFails(t, full, both, api.ErrRecord)
	full.Tokens[0] = "b"
	applyFails(t, full, both, api.ErrRiskToken)
	full.Version = 0
	applyFails(t, full, both, api.ErrRiskVersion)
	applyFails(t, api.RiskList{Version: 1, Tokens: numbered(0, 1000)}, api.Delta{Version: 2, Add: of("a b"), Gone: of("c")}, api.ErrRiskToken)
}
