package journey_test

import (
	"math/rand"
	"slices"
	"testing"

	"farebox/api"
	"farebox/journey"
)

// withRoom is a list with spare room that is filled by a mark.
func withRoom[T any](l []T, mark T) []T {
	return append(slices.Clone(l), mark, mark, mark)[:len(l)]
}

// watched is a list that was handed in, and what it was, as far as its memory goes.
type watched[T comparable] struct{ list, was []T }

func watch[T comparable](l []T) watched[T] { return watched[T]{l, slices.Clone(l[:cap(l)])} }

func (w watched[T]) isAsItWas() bool { return slices.Equal(w.list[:cap(w.list)], w.was) }

// fill puts a mark everywhere, into the spare room too.
func fill[T any](l []T, mark T) {
	l = l[:cap(l)]
	for i := range l {
		l[i] = mark
	}
}

var (
	markTap     = api.Tap{Device: 77, Counter: 77, Token: "markmark", Kind: bus, Place: 77, Time: 777}
	otherTap    = api.Tap{Device: 88, Counter: 88, Token: "otherone", Kind: in, Place: 88, Time: 888}
	markStation = api.Station{Id: 77, Zone: 1, Group: 77}
	markSpan    = api.Span{From: 7, To: 7, Single: 77, Daily: 77, Weekly: 77}
	markBand    = api.Band{From: 77, To: 78}
	markJourney = api.Journey{Kind: 4, From: 77, To: 77, Start: 77, End: 77}
)

// someHanded are taps of some days, now and then such as may not be.
func someHanded(rnd *rand.Rand) []api.Tap {
	l := someDays(rnd)
	if len(l) > 1 && rnd.Intn(4) == 0 {
		i, j := rnd.Intn(len(l)), rnd.Intn(len(l))
		l[i], l[j] = l[j], l[i]
	}
	return withRoom(l, markTap)
}

// P17.4, W6: what Right and Days are handed is neither changed, nor its spare room, nor kept; each day is new memory, and shares none with another one.
func TestDaysMemory(t *testing.T) {
	rnd := rand.New(rand.NewSource(174))
	for range 500 {
		l := someHanded(rnd)
		seen := watch(l)
		want, _ := slowDays(slices.Clone(l))
		right(t, l)
		got, _ := journey.Days(l)
		again, _ := journey.Days(l)
		if !seen.isAsItWas() {
			t.Fatal("what was handed in was changed")
		}
		for i := range got {
			fill(got[i], otherTap)
			if !slices.EqualFunc(got[i+1:], want[i+1:], slices.Equal) || !slices.EqualFunc(again, want, slices.Equal) {
				t.Fatal("two lists that were answered share memory")
			}
		}
		fill(got, []api.Tap{otherTap})
		if !seen.isAsItWas() {
			t.Fatal("an answer shares memory with what was handed in")
		}
		fill(l, otherTap)
		if !slices.EqualFunc(again, want, slices.Equal) {
			t.Fatal("what was handed in is kept, or an answer's memory was used again")
		}
	}
}

// P17.4, W6: the same of Build: the taps, and the lists of the tariff.
func TestBuildMemory(t *testing.T) {
	rnd := rand.New(rand.NewSource(175))
	for range 2000 {
		f := someTariff(rnd)
		f.Stations, f.Spans, f.Peak = withRoom(f.Stations, markStation), withRoom(f.Spans, markSpan), withRoom(f.Peak, markBand)
		l := withRoom(someDay(rnd, f), markTap)
		want, _, _ := slowBuild(f, l)
		stations, spans, peak, given := watch(f.Stations), watch(f.Spans), watch(f.Peak), watch(l)
		isAsItWas := func() bool {
			return stations.isAsItWas() && spans.isAsItWas() && peak.isAsItWas() && given.isAsItWas()
		}
		got, _ := journey.Build(f, l)
		again, _ := journey.Build(f, l)
		if !isAsItWas() {
			t.Fatal("what was handed in was changed")
		}
		fill(got, markJourney)
		if !slices.Equal(again, want) || !isAsItWas() {
			t.Fatal("an answer shares memory with another one, or with what was handed in")
		}
		fill(l, otherTap)
		fill(f.Stations, markStation)
		fill(f.Spans, markSpan)
		fill(f.Peak, markBand)
		if !slices.Equal(again, want) {
			t.Fatal("what was handed in is kept, or an answer's memory was used again")
		}
	}
}

// P17.4, W2: what is asked again, behind other questions, is answered as at first.
func TestAskedAgain(t *testing.T) {
	rnd := rand.New(rand.NewSource(176))
	f := ofTheChapter()
	l := taps("in 1 0, bus 9 5, out 3 30, in 4 35")
	for range 300 {
		buildIs(t, f, "in 1 0, bus 9 5, out 3 30, in 4 35", "bus 9 5, whole 1 3 0 30, noexit 4 35")
		daysAre(t, l, 4)
		other := someTariff(rnd)
		build(t, other, someDay(rnd, other))
		days(t, someHanded(rnd))
	}
}
