package caps_test

import (
	"math/rand"
	"slices"
	"testing"

	"farebox/api"
	"farebox/caps"
)

// withRoom is a list with spare room that is filled by a mark.
func withRoom[T any](l []T, mark T) []T {
	return append(slices.Clone(l), mark, mark, mark)[:len(l)]
}

// watched is a list that was handed in, and what it was, as far as its memory goes.
type watched[T comparable] struct{ list, was []T }

func watch[T comparable](l []T) watched[T] { return watched[T]{l, slices.Clone(l[:cap(l)])} }

func (w watched[T]) isAsItWas() bool { return slices.Equal(w.list[:cap(w.list)], w.was) }

// fill puts a mark everywhere, into the spare room too.
func fill[T any](l []T, mark T) {
	l = l[:cap(l)]
	for i := range l {
		l[i] = mark
	}
}

var (
	markStation = api.Station{Id: 77, Zone: 1, Group: 77}
	markSpan    = api.Span{From: 7, To: 7, Single: 77, Daily: 77, Weekly: 77}
	markBand    = api.Band{From: 77, To: 78}
	markPriced  = api.Priced{Journey: api.Journey{Kind: 4, From: 77, To: 77, Start: 480, End: 480}, Fare: 77}
	markDay     = api.Day{Day: 3, Rail: 77, Bus: 7, Capped: 77, Most: 77, Low: 1, High: 1}
)

// P19.3, W6: what is handed in is neither changed, nor its spare room, nor kept.
func TestMemory(t *testing.T) {
	rnd := rand.New(rand.NewSource(194))
	for range 2000 {
		f := someTariff(rnd)
		f.Stations, f.Spans, f.Peak = withRoom(f.Stations, markStation), withRoom(f.Spans, markSpan), withRoom([]api.Band{{From: 1, To: 2}}, markBand)
		day := someDayNumber(rnd)
		l := someJourneys(rnd, f, day, 20)
		days := []api.Day{someDay(rnd, f, 0), someDay(rnd, f, 2), someDay(rnd, f, 6)}
		if len(l) > 0 && rnd.Intn(4) == 0 {
			l[rnd.Intn(len(l))].Journey.Kind = 0
			days[rnd.Intn(3)].Most = -1
		}
		l, days = withRoom(l, markPriced), withRoom(days, markDay)
		wantDay, wantDayE := slowDay(f, day, l)
		wantWeek, wantWeekE := slowWeek(f, days)
		stations, spans, peak, journeys, week := watch(f.Stations), watch(f.Spans), watch(f.Peak), watch(l), watch(days)
		for range 2 {
			if d, e := caps.Day(f, day, l); d != wantDay || e != wantDayE {
				t.Fatal(d, e, wantDay, wantDayE)
			}
			if n, e := caps.Week(f, days); n != wantWeek || e != wantWeekE {
				t.Fatal(n, e, wantWeek, wantWeekE)
			}
		}
		if !stations.isAsItWas() || !spans.isAsItWas() || !peak.isAsItWas() || !journeys.isAsItWas() || !week.isAsItWas() {
			t.Fatal("what was handed in was changed")
		}
		fill(l, markPriced)
		fill(days, markDay)
		fill(f.Stations, markStation)
		fill(f.Spans, markSpan)
		dayOf(t, f, day, l)
		weekOf(t, f, days)
		dayIs(t, ofTheChapter(), times(3, rail(1, 2, 300)), api.Day{Rail: 900, Capped: 700, Low: 1, High: 2})
		weekIs(t, ofTheChapter(), daysFrom(both(0, 400, 500, 1, 1), 5), 2000)
	}
}

// P19.1, P19.2, W6: what lies in a list's spare room is not asked.
func TestSpareRoomIsNotAsked(t *testing.T) {
	f := ofTheChapter()
	f.Stations = withRoom(f.Stations, api.Station{Id: 3, Zone: 1})
	f.Spans = withRoom(f.Spans, api.Span{From: 1, To: 3})
	dayFails(t, f, 0, []api.Priced{rail(1, 3, 1)}, api.ErrArg)
	weekFails(t, f, []api.Day{byRail(0, 1, 1, 3)}, api.ErrArg)
	dayIs(t, f, withRoom(times(2000, other(noExit, 1)), markPriced), api.Day{Most: 2000})
	weekIs(t, f, withRoom(daysFrom(buses(0, 1), 7), markDay), 7)
}

// P19.3, W2: what is asked again, behind other questions, is answered as at first.
func TestAskedAgain(t *testing.T) {
	rnd := rand.New(rand.NewSource(195))
	f := ofTheChapter()
	for range 300 {
		dayIs(t, f, times(3, rail(1, 2, 300)), api.Day{Rail: 900, Capped: 700, Low: 1, High: 2})
		dayIs(t, f, []api.Priced{other(bus, 175)}, api.Day{Bus: 175, Capped: 175})
		dayFails(t, f, 0, []api.Priced{rail(1, 2, 300), rail(1, 3, 300)}, api.ErrArg)
		weekIs(t, f, daysFrom(both(0, 400, 500, 1, 1), 5), 2000)
		weekFails(t, f, []api.Day{both(0, 400, 500, 1, 2), both(7, 400, 500, 1, 2)}, api.ErrTime)
		weekIs(t, f, []api.Day{buses(0, 400)}, 400)
		x := someTariff(rnd)
		dayOf(t, x, 3, someJourneys(rnd, x, 3, 9))
		weekOf(t, x, []api.Day{someDay(rnd, x, 1), spoiltDay(rnd, someDay(rnd, x, 2))})
	}
}
