package risk_test

import (
	"testing"

	"farebox/api"
)

// P13.4: what one has in Add, and the other one not in Gone; and the other way round.
func TestJoin(t *testing.T) {
	joinIs(t, delta(2, "b", "a"), delta(3, "a", "c"), delta(3, "b", "c"))
	joinIs(t, delta(1, "", ""), delta(2, "", ""), delta(2, "", ""))
	joinIs(t, delta(1, "a", ""), delta(2, "b", ""), delta(2, "a b", ""))
	joinIs(t, delta(1, "b", ""), delta(2, "a", ""), delta(2, "a b", ""))
	joinIs(t, delta(1, "", "b"), delta(2, "", "a"), delta(2, "", "a b"))
	joinIs(t, delta(1, "a b", ""), delta(2, "", "a b"), delta(2, "", ""))
	joinIs(t, delta(1, "", "a b"), delta(2, "a b", ""), delta(2, "", ""))
	joinIs(t, delta(1, "a c e", "b d f"), delta(2, "b f g", "c h"), delta(2, "a e g", "d h"))
	joinIs(t, delta(last-1, "a", ""), delta(last, "", "a"), delta(last, "", ""))
	joinIs(t, api.Delta{Version: 1, Add: []string{}}, api.Delta{Version: 2, Gone: []string{}}, delta(2, "", ""))
}

// P13.4: deltas that may not be, the first, the second, or both.
func TestJoinWrongDeltas(t *testing.T) {
	for _, d := range wrongDeltas() {
		joinFails(t, delta(1, "x", ""), d, api.ErrRecord)
		joinFails(t, d, delta(3, "x", ""), api.ErrRecord)
		joinFails(t, d, delta(9, "x", ""), api.ErrRecord) // W4: ahead of the version
		joinFails(t, d, d, api.ErrRecord)
	}
}

// P13.4: the second one's version is the first one's and 1; behind the last one there is none.
func TestJoinVersions(t *testing.T) {
	versions := []int{1, 2, 3, 4, 1<<31 - 1, 1 << 31, 1<<31 + 1, last - 2, last - 1, last}
	for _, first := range versions {
		for _, second := range versions {
			if second-1 == first {
				joinIs(t, delta(first, "a", ""), delta(second, "b", ""), delta(second, "a b", ""))
			} else {
				joinFails(t, delta(first, "a", ""), delta(second, "b", ""), api.ErrRiskVersion)
			}
		}
	}
}

// P13.4: no token comes twice, or goes twice.
func TestJoinTokens(t *testing.T) {
	joinFails(t, delta(1, "a", ""), delta(2, "a", ""), api.ErrRiskToken)
	joinFails(t, delta(1, "", "a"), delta(2, "", "a"), api.ErrRiskToken)
	joinFails(t, delta(1, "a b", ""), delta(2, "b c", ""), api.ErrRiskToken)
	joinFails(t, delta(1, "", "b c"), delta(2, "", "a b"), api.ErrRiskToken)
	joinFails(t, delta(1, "a b", "x y"), delta(2, "c x", "y z"), api.ErrRiskToken)
	joinFails(t, delta(1, "a b", "x y"), delta(2, "b y", "a z"), api.ErrRiskToken)
}

// P13.4: at most 1000 come, and at most 1000 go.
func TestJoinLength(t *testing.T) {
	of1000 := numbered(0, 1000)
	add := func(version int, l []string) api.Delta { return api.Delta{Version: version, Add: l} }
	gone := func(version int, l []string) api.Delta { return api.Delta{Version: version, Gone: l} }
	joinIs(t, add(1, numbered(0, 500)), add(2, numbered(500, 500)), add(2, of1000))
	joinIs(t, gone(1, numbered(500, 500)), gone(2, numbered(0, 500)), gone(2, of1000))
	joinFails(t, add(1, of1000), add(2, numbered(1000, 1)), api.ErrLong)
	joinFails(t, gone(1, of1000), gone(2, numbered(1000, 1)), api.ErrLong)
	joinFails(t, add(1, numbered(0, 500)), add(2, numbered(500, 501)), api.ErrLong)
	joinFails(t, gone(1, numbered(501, 500)), gone(2, numbered(0, 501)), api.ErrLong)
	joinFails(t, add(1, of1000), add(2, numbered(1000, 1000)), api.ErrLong)
	joinIs(t, add(1, of1000), gone(2, of1000), add(2, nil))
	joinIs(t, add(1, of1000), api.Delta{Version: 2, Add: numbered(1000, 1000), Gone: of1000}, add(2, numbered(1000, 1000)))
	joinIs(t, add(1, of1000), gone(2, numbered(1000, 1000)), api.Delta{Version: 2, Add: of1000, Gone: numbered(1000, 1000)})
	joinFails(t, add(1, of1000), api.Delta{Version: 2, Add: numbered(1000, 1000), Gone: numbered(0, 999)}, api.ErrLong)
	joinFails(t, gone(1, of1000), api.Delta{Version: 2, Add: numbered(0, 999), Gone: numbered(1000, 1000)}, api.ErrLong)
}

// P13.4 and W4: the order of what is told where several things are wrong.
func TestJoinOrder(t *testing.T) {
	a := api.Delta{Version: 1, Add: numbered(0, 1000), Gone: of("a")}
	b := api.Delta{Version: 2, Add: numbered(1000, 1000), Gone: of("a")}
	joinFails(t, a, b, api.ErrRiskToken)
	b.Version = 3
	joinFails(t, a, b, api.ErrRiskVersion)
	b.Gone = of("b a")
	joinFails(t, a, b, api.ErrRecord)
	a.Gone, b.Gone = of("b a"), of("a")
	joinFails(t, a, b, api.ErrRecord)
}
