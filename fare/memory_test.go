package fare_test

import (
	"math/rand"
	"slices"
	"testing"

	"farebox/api"
	"farebox/fare"
)

// withRoom is a list with spare room that is filled by a mark.
func withRoom[T any](l []T, mark T) []T {
	return append(slices.Clone(l), mark, mark, mark)[:len(l)]
}

// watched is a list that was handed in, and what it was, as far as its memory goes.
type watched[T comparable] struct{ list, was []T }

func watch[T comparable](l []T) watched[T] { return watched[T]{l, slices.Clone(l[:cap(l)])} }

func (w watched[T]) isAsItWas() bool { return slices.Equal(w.list[:cap(w.list)], w.was) }

// fill puts a mark everywhere, into the spare room too.
func fill[T any](l []T, mark T) {
	l = l[:cap(l)]
	for i := range l {
		l[i] = mark
	}
}

var (
	markStation = api.Station{Id: 77, Zone: 1, Group: 77}
	markSpan    = api.Span{From: 7, To: 7, Single: 77, Daily: 77, Weekly: 77}
	markBand    = api.Band{From: 77, To: 78}
	markJourney = api.Journey{Kind: 4, From: 77, To: 77, Start: 77, End: 77}
	markPriced  = api.Priced{Journey: api.Journey{Kind: 2, From: 88, To: 88, Start: 88, End: 88}, Fare: 88}
)

// P18.3, W6: what is handed in is neither changed, nor its spare room, nor kept; what is answered is new memory, its spare room too.
func TestMemory(t *testing.T) {
	rnd := rand.New(rand.NewSource(183))
	for range 2000 {
		f := someTariff(rnd)
		f.Stations, f.Spans, f.Peak = withRoom(f.Stations, markStation), withRoom(f.Spans, markSpan), withRoom(f.Peak, markBand)
		l := make([]api.Journey, rnd.Intn(20))
		for i := range l {
			l[i] = someJourney(rnd, f)
		}
		if len(l) > 0 && rnd.Intn(4) == 0 {
			l[rnd.Intn(len(l))].Kind = 0
		}
		l = withRoom(l, markJourney)
		want, wantE := slowAll(f, l)
		stations, spans, peak, given := watch(f.Stations), watch(f.Spans), watch(f.Peak), watch(l)
		isAsItWas := func() bool {
			return stations.isAsItWas() && spans.isAsItWas() && peak.isAsItWas() && given.isAsItWas()
		}
		for _, j := range l {
			fare.Of(f, j)
		}
		got, _ := fare.All(f, l)
		again, e := fare.All(f, l)
		if !isAsItWas() {
			t.Fatal("what was handed in was changed")
		}
		fill(got, markPriced)
		if !slices.Equal(again, want) || e != wantE || !isAsItWas() {
			t.Fatal("an answer shares memory with another one, or with what was handed in")
		}
		fill(l, markJourney)
		fill(f.Stations, markStation)
		fill(f.Spans, markSpan)
		fill(f.Peak, markBand)
		if !slices.Equal(again, want) {
			t.Fatal("what was handed in is kept, or an answer's memory was used again")
		}
	}
}

// P18.1, W6: what lies in a list's spare room is not asked.
func TestSpareRoomIsNotAsked(t *testing.T) {
	f := ofTheChapter()
	f.Stations = withRoom(f.Stations, api.Station{Id: 3, Zone: 1})
	f.Peak = withRoom(f.Peak, api.Band{From: 600, To: 700})
	ofFails(t, f, between(whole, 1, 3, 480, 510), api.ErrArg)
	ofIs(t, f, between(whole, 1, 2, 600, 630), 150)
	if got, e := all(t, f, withRoom(someJourneys(2000), api.Journey{})); len(got) != 2000 || e != api.OK {
		t.Error(len(got), e)
	}
}

// P18.3, W2: what is asked again, behind other questions, is answered as at first.
func TestAskedAgain(t *testing.T) {
	rnd := rand.New(rand.NewSource(184))
	f := ofTheChapter()
	for range 300 {
		ofIs(t, f, between(whole, 1, 2, 480, 510), 300)
		ofIs(t, f, between(whole, 1, 2, 600, 630), 150)
		ofFails(t, f, between(whole, 1, 3, 480, 510), api.ErrArg)
		all(t, f, someJourneys(10))
		other := someTariff(rnd)
		j := someJourney(rnd, other)
		of(t, other, j)
		all(t, other, []api.Journey{j, spoilt(rnd, j)})
	}
}
