package risk_test

import (
	"math"
	"slices"
	"strings"
	"testing"

	"farebox/api"
	"farebox/risk"
)

// P13.1: a token is a text of 8 bytes, whatever these are.
func TestToken(t *testing.T) {
	for size := range 40 {
		for _, s := range []string{"a", "\x00", "\xff", "\n"} {
			s = strings.Repeat(s, size)
			if is := risk.Token(s); is != (size == 8) {
				t.Errorf("Token(%q): %v", s, is)
			}
		}
	}
	for s, want := range map[string]bool{"abcdefgh": true, "ééééé": false, "éééé": true, "日本ab": true, "日本abc": false, "éééééééé": false, strings.Repeat("a", 1<<16+8): false} {
		if is := risk.Token(s); is != want {
			t.Errorf("Token(%.20q): %v", s, is)
		}
	}
}

// P13.1: a list may be, from no token to 1000.
func TestRightLists(t *testing.T) {
	for _, version := range []int{1, 2, 1 << 31, 1 << 53, last} {
		for _, many := range []int{0, 1, 2, 999, 1000} {
			rightIs(t, api.RiskList{Version: version, Tokens: numbered(0, many)}, api.OK)
		}
		rightIs(t, api.RiskList{Version: version, Tokens: []string{}}, api.OK)
	}
	rightIs(t, api.RiskList{}, api.OK)
	rightIs(t, api.RiskList{Tokens: []string{}}, api.OK)
	rightIs(t, list(1, "\x00 \x01 A a \x7f"), api.OK)
	rightIs(t, api.RiskList{Version: 1, Tokens: []string{"aaaaaaaa", "aaaaaaab", "aaaaaaa\x80", "aaaaaaa\xff"}}, api.OK)
}

// P13.1: no version below 0, and no token in the version 0.
func TestRightVersions(t *testing.T) {
	for _, version := range []int{-1, -2, -1 << 31, math.MinInt} {
		rightIs(t, list(version, ""), api.ErrRiskVersion)
		rightIs(t, list(version, "a"), api.ErrRiskVersion)
	}
	rightIs(t, list(0, "a"), api.ErrRiskVersion)
	rightIs(t, list(0, "a b"), api.ErrRiskVersion)
}

// P13.1: at most 1000 tokens.
func TestRightLength(t *testing.T) {
	for _, many := range []int{1001, 1002, 2000, 5000} {
		rightIs(t, api.RiskList{Version: 1, Tokens: numbered(0, many)}, api.ErrLong)
	}
}

// P13.1: tokens only, rising by their bytes, none twice: wherever the wrong one stands.
func TestRightTokens(t *testing.T) {
	for _, letters := range []string{"b a", "a a", "a c b", "c a b", "a b a", "a b b", "a a b", "a b c c", "é a", "a A"} {
		rightIs(t, list(1, letters), api.ErrRiskToken)
	}
	for _, s := range []string{"", "a", "abc", "aaaaaaa", "aaaaaaaaa", "zzzzzzz", "zzzzzzzzz"} {
		rightIs(t, api.RiskList{Version: 1, Tokens: []string{s}}, api.ErrRiskToken)
		for at := range 4 {
			l := slices.Insert(of("b c d"), at, s)
			rightIs(t, api.RiskList{Version: 1, Tokens: l}, api.ErrRiskToken)
			slices.Sort(l)
			rightIs(t, api.RiskList{Version: 1, Tokens: l}, api.ErrRiskToken)
		}
	}
	for _, at := range []int{0, 1, 500, 998} {
		l := numbered(0, 1000)
		l[at], l[at+1] = l[at+1], l[at]
		rightIs(t, api.RiskList{Version: 1, Tokens: l}, api.ErrRiskToken)
		l = numbered(0, 1000)
		l[at] = l[at+1]
		rightIs(t, api.RiskList{Version: 1, Tokens: l}, api.ErrRiskToken)
	}
}

// P13.1 and W4: of several errors the version's comes first, then the length's.
func TestRightOrder(t *testing.T) {
	for _, l := range [][]string{numbered(0, 1001), make([]string, 1001), {"abc"}, of("b a")} {
		rightIs(t, api.RiskList{Version: -1, Tokens: l}, api.ErrRiskVersion)
		rightIs(t, api.RiskList{Version: 0, Tokens: l}, api.ErrRiskVersion)
	}
	rightIs(t, api.RiskList{Version: 1, Tokens: make([]string, 1001)}, api.ErrLong)
	rightIs(t, api.RiskList{Version: 1, Tokens: slices.Repeat(of("b a"), 501)}, api.ErrLong)
}

// P13.1: Has asks any list, such as may not be, too, for anything.
func TestHas(t *testing.T) {
	for _, l := range [][]string{nil, of("a"), of("a c"), of("c a b"), of("a a"), {"", "abc", "aaaaaaaaa"}, numbered(0, 1000), numbered(0, 2000), {"cccccccc", "b", "aaaaaaaa", "", "dddddddd"}} {
		for _, version := range []int{-1, 0, 1, last} {
			for _, s := range append(of("a b c d"), "", "abc", "b", "aaaaaaaaa", "aaaaaaa", "00000000", "00000999", "00001000", "00001999") {
				want := false
				for _, x := range l {
					want = want || x == s
				}
				if is := risk.Has(api.RiskList{Version: version, Tokens: l}, s); is != want {
					t.Errorf("Has(%s, %q): %v", short(l), s, is)
				}
			}
		}
	}
}
