package risk_test

import (
	"math/rand"
	"slices"
	"testing"

	"farebox/api"
	"farebox/risk"
)

// turned is a delta turned round, of the version behind it.
func turned(d api.Delta) api.Delta {
	return api.Delta{Version: d.Version + 1, Add: d.Gone, Gone: d.Add}
}

// leads holds P13.6 and P13.7 of a list and a delta that leads on from it.
func leads(t *testing.T, l api.RiskList, d api.Delta) api.RiskList {
	t.Helper()
	m, e := apply(t, l, d)
	if e != api.OK {
		t.Fatalf("Apply(%s): %d", short(l, d), e)
	}
	rightIs(t, m, api.OK)
	diffIs(t, l, m.Tokens, d)
	if m.Version < last {
		diffIs(t, m, l.Tokens, turned(d))
		applyIs(t, m, turned(d), api.RiskList{Version: m.Version + 1, Tokens: l.Tokens})
	}
	for _, x := range slices.Concat(l.Tokens, d.Add, d.Gone, of("a b c x"), []string{"abc", ""}) {
		want := slices.Contains(d.Add, x) || slices.Contains(l.Tokens, x) && !slices.Contains(d.Gone, x)
		if is := risk.Has(m, x); is != want {
			t.Fatalf("Has(Apply(%s), %q): %v", short(l, d), x, is)
		}
	}
	return m
}

// joins holds P13.7: two deltas joined do what they do one behind the other.
func joins(t *testing.T, l api.RiskList, a, b api.Delta) {
	t.Helper()
	m, e := apply(t, l, a)
	if e != api.OK {
		return
	}
	n, e := apply(t, m, b)
	if e != api.OK {
		return
	}
	d, e := join(t, a, b)
	if e != api.OK || d.Version != n.Version {
		t.Fatalf("Join(%s): %s, %d", short(a, b), short(d), e)
	}
	d.Version = l.Version + 1
	applyIs(t, l, d, api.RiskList{Version: l.Version + 1, Tokens: n.Tokens})
}

// few are all lists, in order, of some of few tokens.
func few() [][]string {
	all := of("a b c d")
	var out [][]string
	for bits := range 1 << len(all) {
		var l []string
		for i, x := range all {
			if bits>>i&1 == 1 {
				l = append(l, x)
			}
		}
		out = append(out, l)
	}
	return out
}

// fewDeltas are all that such lists make.
func fewDeltas(version int) []api.Delta {
	var out []api.Delta
	for _, add := range few() {
		for _, gone := range few() {
			if d := (api.Delta{Version: version, Add: add, Gone: gone}); slowMayBe(d) {
				out = append(out, d)
			}
		}
	}
	return out
}

// P13.2, P13.3, P13.6, P13.7: every list of few tokens, with every other one, and with every delta.
func TestFewTokens(t *testing.T) {
	for _, tokens := range few() {
		l := api.RiskList{Version: 4, Tokens: tokens}
		for _, others := range few() {
			d, e := diff(t, l, others)
			if e != api.OK {
				t.Fatal(e)
			}
			if m := leads(t, l, d); !sameList(m, api.RiskList{Version: 5, Tokens: others}) {
				t.Fatalf("from %s to %s: %s", short(tokens), short(others), short(m))
			}
		}
		for _, d := range fewDeltas(5) {
			if _, e := apply(t, l, d); e == api.OK {
				leads(t, l, d)
			}
		}
	}
}

// P13.4 and P13.7: every two deltas of few tokens, joined, and done to every list.
func TestFewTokensJoined(t *testing.T) {
	firsts, seconds := fewDeltas(5), fewDeltas(6)
	for _, a := range firsts {
		for _, b := range seconds {
			if d, e := join(t, a, b); e == api.OK && !slowMayBe(d) {
				t.Fatalf("Join(%s): %s", short(a, b), short(d))
			}
		}
	}
	for _, tokens := range few() {
		l := api.RiskList{Version: 4, Tokens: tokens}
		for _, a := range firsts {
			if _, e := slowApply(l, a); e != api.OK {
				continue
			}
			for _, b := range seconds {
				joins(t, l, a, b)
			}
		}
	}
}

// P13.2 to P13.4 and W4: every mix of short lists, in order or not, with what is no token, and of versions at their edges.
func TestEveryMix(t *testing.T) {
	parts := append(of("a b"), "", "aaaaaaaaa")
	lists := [][]string{nil}
	for _, x := range parts {
		lists = append(lists, []string{x})
		for _, y := range parts {
			lists = append(lists, []string{x, y})
		}
	}
	versions := []int{-1 << 63, -1, 0, 1, 2, last - 1, last}
	for _, one := range lists {
		for _, version := range versions {
			l := api.RiskList{Version: version, Tokens: one}
			right(t, l)
			for _, two := range lists {
				diff(t, l, two)
				for _, three := range lists {
					for _, other := range versions {
						apply(t, l, api.Delta{Version: other, Add: two, Gone: three})
						join(t, api.Delta{Version: version, Add: one, Gone: three}, api.Delta{Version: other, Add: two})
						join(t, api.Delta{Version: version, Add: two}, api.Delta{Version: other, Add: one, Gone: three})
					}
				}
			}
		}
	}
}

// P13.6 and P13.7: many lists, one made of another, up to such as are full.
func TestManyLists(t *testing.T) {
	rnd := rand.New(rand.NewSource(136))
	for range 1500 {
		most := []int{3, 10, 60}[rnd.Intn(3)]
		l := someList(rnd, most)
		a := someDelta(rnd, l, most)
		m := leads(t, l, a)
		b := someDelta(rnd, m, most)
		leads(t, m, b)
		joins(t, l, a, b)
		wanted := someTokens(rnd, most)
		d, _ := diff(t, l, wanted)
		applyIs(t, l, d, api.RiskList{Version: l.Version + 1, Tokens: wanted})
	}
	for range 10 {
		from, to := rnd.Intn(2000), rnd.Intn(2000)
		l, wanted := api.RiskList{Version: 1, Tokens: numbered(from, 1000)}, numbered(to, 1000)
		d, _ := diff(t, l, wanted)
		m := leads(t, l, d)
		next, _ := diff(t, m, numbered(rnd.Intn(2000), 1000))
		joins(t, l, d, next)
	}
}

// P13.6: lists by the same deltas are the same, whether they were made one by one or of joined ones.
func TestSameDeltas(t *testing.T) {
	rnd := rand.New(rand.NewSource(137))
	for range 300 {
		var one, other api.RiskList
		var all api.Delta
		for version := range 12 {
			d := someDelta(rnd, one, 8)
			one, other = leads(t, one, d), leads(t, other, d)
			if !sameList(one, other) {
				t.Fatalf("%s and %s", short(one), short(other))
			}
			if version == 0 {
				all = d
				continue
			}
			var e api.Errno
			if all, e = join(t, all, d); e != api.OK {
				t.Fatal(e)
			}
			applyIs(t, api.RiskList{}, api.Delta{Version: 1, Add: all.Add, Gone: all.Gone}, api.RiskList{Version: 1, Tokens: one.Tokens})
		}
	}
}

// W2: what is asked twice is answered alike.
func TestAskedTwice(t *testing.T) {
	rnd := rand.New(rand.NewSource(138))
	for range 300 {
		l, d, next := someHanded(rnd)
		for range 3 {
			apply(t, l, d)
			join(t, d, next)
			diff(t, l, slices.Concat(d.Add, d.Gone))
		}
	}
}
