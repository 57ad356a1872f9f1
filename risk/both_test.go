package risk_test

import (
	"fmt"
	"math/rand"
	"slices"
	"strings"
	"testing"

	"farebox/api"
	"farebox/risk"
)

const last = 1<<63 - 1 // the last version

// of are tokens, each of one letter eight times.
func of(letters string) []string {
	var l []string
	for _, s := range strings.Fields(letters) {
		l = append(l, strings.Repeat(s, 8))
	}
	return l
}

// list is one of such tokens.
func list(version int, letters string) api.RiskList {
	return api.RiskList{Version: version, Tokens: of(letters)}
}

func delta(version int, add, gone string) api.Delta {
	return api.Delta{Version: version, Add: of(add), Gone: of(gone)}
}

// numbered are so many tokens, rising, from a number on.
func numbered(from, many int) []string {
	var l []string
	for n := from; n < from+many; n++ {
		l = append(l, fmt.Sprintf("%08d", n))
	}
	return l
}

func sameList(a, b api.RiskList) bool {
	return a.Version == b.Version && slices.Equal(a.Tokens, b.Tokens)
}

func sameDelta(a, b api.Delta) bool {
	return a.Version == b.Version && slices.Equal(a.Add, b.Add) && slices.Equal(a.Gone, b.Gone)
}

// short tells a list, or a delta, without most of many tokens.
func short(l ...any) string {
	s := fmt.Sprintf("%q", l)
	return s[:min(len(s), 400)]
}

// The calls, each held against the slow one.

func right(t *testing.T, l api.RiskList) api.Errno {
	t.Helper()
	e := risk.Right(l)
	if want := slowRight(l); e != want {
		t.Fatalf("Right(%s): %d, not %d", short(l), e, want)
	}
	return e
}

func apply(t *testing.T, l api.RiskList, d api.Delta) (api.RiskList, api.Errno) {
	t.Helper()
	want, wantE := slowApply(l, d)
	got, e := risk.Apply(l, d)
	if e != wantE || !sameList(got, want) {
		t.Fatalf("Apply(%s): %s, %d, not %s, %d", short(l, d), short(got), e, short(want), wantE)
	}
	return got, e
}

func diff(t *testing.T, l api.RiskList, tokens []string) (api.Delta, api.Errno) {
	t.Helper()
	want, wantE := slowDiff(l, tokens)
	got, e := risk.Diff(l, tokens)
	if e != wantE || !sameDelta(got, want) {
		t.Fatalf("Diff(%s): %s, %d, not %s, %d", short(l, tokens), short(got), e, short(want), wantE)
	}
	return got, e
}

func join(t *testing.T, a, b api.Delta) (api.Delta, api.Errno) {
	t.Helper()
	want, wantE := slowJoin(a, b)
	got, e := risk.Join(a, b)
	if e != wantE || !sameDelta(got, want) {
		t.Fatalf("Join(%s): %s, %d, not %s, %d", short(a, b), short(got), e, short(want), wantE)
	}
	return got, e
}

// Each of these holds a call against what the test says, too. An error stands alone (W3).

func rightIs(t *testing.T, l api.RiskList, want api.Errno) {
	t.Helper()
	if e := right(t, l); e != want {
		t.Errorf("Right(%s): %d, not %d", short(l), e, want)
	}
}

func applyIs(t *testing.T, l api.RiskList, d api.Delta, want api.RiskList) {
	t.Helper()
	if got, e := apply(t, l, d); e != api.OK || !sameList(got, want) {
		t.Errorf("Apply(%s): %s, %d, not %s", short(l, d), short(got), e, short(want))
	}
}

func applyFails(t *testing.T, l api.RiskList, d api.Delta, want api.Errno) {
	t.Helper()
	if got, e := apply(t, l, d); e != want || !sameList(got, api.RiskList{}) {
		t.Errorf("Apply(%s): %s, %d, not %d", short(l, d), short(got), e, want)
	}
}

func diffIs(t *testing.T, l api.RiskList, tokens []string, want api.Delta) {
	t.Helper()
	if got, e := diff(t, l, tokens); e != api.OK || !sameDelta(got, want) {
		t.Errorf("Diff(%s): %s, %d, not %s", short(l, tokens), short(got), e, short(want))
	}
}

func diffFails(t *testing.T, l api.RiskList, tokens []string, want api.Errno) {
	t.Helper()
	if got, e := diff(t, l, tokens); e != want || !sameDelta(got, api.Delta{}) {
		t.Errorf("Diff(%s): %s, %d, not %d", short(l, tokens), short(got), e, want)
	}
}

func joinIs(t *testing.T, a, b, want api.Delta) {
	t.Helper()
	if got, e := join(t, a, b); e != api.OK || !sameDelta(got, want) {
		t.Errorf("Join(%s): %s, %d, not %s", short(a, b), short(got), e, short(want))
	}
}

func joinFails(t *testing.T, a, b api.Delta, want api.Errno) {
	t.Helper()
	if got, e := join(t, a, b); e != want || !sameDelta(got, api.Delta{}) {
		t.Errorf("Join(%s): %s, %d, not %d", short(a, b), short(got), e, want)
	}
}

// someToken has few bytes to choose from, the lowest and the highest among them, so that tokens meet, and begin alike.
func someToken(rnd *rand.Rand) string {
	b := []byte("aaaaaaaa")
	for range 2 {
		b[rnd.Intn(8)] = []byte{0, 'a', 'b', 127, 128, 255}[rnd.Intn(6)]
	}
	return string(b)
}

// someTokens rise.
func someTokens(rnd *rand.Rand, most int) []string {
	var l []string
	for range rnd.Intn(most + 1) {
		l = append(l, someToken(rnd))
	}
	slices.Sort(l)
	return slices.Compact(l)
}

func someVersion(rnd *rand.Rand) int { return []int{1, 2, 1 << 31, 1 << 53, last - 3}[rnd.Intn(5)] }

// someList may be.
func someList(rnd *rand.Rand, most int) api.RiskList {
	l := api.RiskList{Version: someVersion(rnd), Tokens: someTokens(rnd, most)}
	if rnd.Intn(9) == 0 {
		return api.RiskList{}
	}
	return l
}

// someDelta of a list is one that leads on from it.
func someDelta(rnd *rand.Rand, l api.RiskList, most int) api.Delta {
	d := api.Delta{Version: l.Version + 1}
	for _, x := range l.Tokens {
		if rnd.Intn(3) == 0 {
			d.Gone = append(d.Gone, x)
		}
	}
	for _, x := range someTokens(rnd, most) {
		if !slices.Contains(l.Tokens, x) {
			d.Add = append(d.Add, x)
		}
	}
	return d
}
