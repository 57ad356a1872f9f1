package refund_test

import (
	"math/rand"
	"slices"
	"testing"

	"farebox/api"
	"farebox/refund"
)

// withRoom is a list with spare room that is filled by a mark.
func withRoom[T any](l []T, mark T) []T {
	return append(slices.Clone(l), mark, mark, mark)[:len(l)]
}

// watched is a list that was handed in, and what it was, as far as its memory goes.
type watched[T comparable] struct{ list, was []T }

func watch[T comparable](l []T) watched[T] { return watched[T]{l, slices.Clone(l[:cap(l)])} }

func (w watched[T]) isAsItWas() bool { return slices.Equal(w.list[:cap(w.list)], w.was) }

// fill puts a mark everywhere, into the spare room too.
func fill[T any](l []T, mark T) {
	l = l[:cap(l)]
	for i := range l {
		l[i] = mark
	}
}

var (
	markStation = api.Station{Id: 77, Zone: 1, Group: 77}
	markSpan    = api.Span{From: 7, To: 7, Single: 77, Daily: 77, Weekly: 77}
	markBand    = api.Band{From: 77, To: 78}
	markOutage  = api.Outage{Station: 77, From: 77, To: 78}
	markGiven   = api.Priced{Journey: api.Journey{Kind: 4, From: 77, To: 77, Start: 77, End: 77}, Fare: 77}
	markPriced  = api.Priced{Journey: api.Journey{Kind: 2, From: 88, To: 88, Start: 88, End: 88}, Fare: 88}
)

// handedIn is all that is, and holds whether it stays as it was.
type handedIn struct {
	tariff   api.Tariff
	outages  []api.Outage
	journeys []api.Priced
}

func (h handedIn) watch() (isAsItWas func() bool) {
	stations, spans, peak := watch(h.tariff.Stations), watch(h.tariff.Spans), watch(h.tariff.Peak)
	outages, journeys := watch(h.outages), watch(h.journeys)
	return func() bool {
		return stations.isAsItWas() && spans.isAsItWas() && peak.isAsItWas() && outages.isAsItWas() && journeys.isAsItWas()
	}
}

func (h handedIn) fill() {
	fill(h.tariff.Stations, markStation)
	fill(h.tariff.Spans, markSpan)
	fill(h.tariff.Peak, markBand)
	fill(h.outages, markOutage)
	fill(h.journeys, markGiven)
}

// memory holds P20.4 of what is handed in, and of what is answered.
func memory(t *testing.T, h handedIn) {
	t.Helper()
	want, wantE := slowApply(h.tariff, h.outages, h.journeys)
	isAsItWas := h.watch()
	refund.Right(h.outages)
	for _, p := range h.journeys {
		refund.Held(h.tariff, h.outages, p.Journey)
	}
	got, e := refund.Apply(h.tariff, h.outages, h.journeys)
	again, _ := refund.Apply(h.tariff, h.outages, h.journeys)
	if !isAsItWas() || e != wantE || !slices.Equal(got, want) {
		t.Fatal("what was handed in was changed, or the answer is another one")
	}
	fill(got, markPriced)
	if !isAsItWas() || !slices.Equal(again, want) {
		t.Fatal("an answer shares memory with another one, or with what was handed in")
	}
	h.fill()
	if !slices.Equal(again, want) {
		t.Fatal("an answer shares memory with what was handed in")
	}
	if third, e := refund.Apply(ofTheChapter(), one(3, 500, 560), withFare(5, heldUp()...)); e != api.OK || !slices.Equal(third, withFare(0, heldUp()...)) {
		t.Fatal("what was handed in is kept")
	}
	if !slices.Equal(again, want) {
		t.Fatal("an answer's memory was used again")
	}
}

// P20.4, W6: what is handed in is neither changed, nor its spare room, nor kept; what is answered is new memory, its spare room too.
func TestMemory(t *testing.T) {
	rnd := rand.New(rand.NewSource(207))
	for range 3000 {
		f := someTariff(rnd)
		f.Stations, f.Spans, f.Peak = withRoom(f.Stations, markStation), withRoom(f.Spans, markSpan), withRoom(f.Peak, markBand)
		l, p := someOutages(rnd, 6), someJourneys(rnd, 12)
		if len(l) > 0 && rnd.Intn(6) == 0 {
			l[0] = spoiltOutage(rnd, l[0])
		}
		memory(t, handedIn{f, withRoom(l, markOutage), withRoom(p, markGiven)})
	}
}

// P20.4: the same where nothing is held up, where all is, and where nothing was handed in, with spare room and without.
func TestMemoryOfAllAndOfNone(t *testing.T) {
	for _, l := range [][]api.Outage{nil, {}, one(3, 500, 560), one(5, 500, 560), manyOutages(100), {{}}} {
		for _, p := range [][]api.Priced{nil, {}, withFare(0, heldUp()...), withFare(300, heldUp()...), withFare(300, asTheyAre()...), make([]api.Priced, 2000), make([]api.Priced, 2001)} {
			memory(t, handedIn{ofTheChapter(), slices.Clone(l), slices.Clone(p)})
			memory(t, handedIn{ofTheChapter(), withRoom(l, markOutage), withRoom(p, markGiven)})
			memory(t, handedIn{api.Tariff{}, withRoom(l, markOutage), withRoom(p, markGiven)})
		}
	}
}

// P20.1 to P20.3, W6: what lies in a list's spare room is not asked.
func TestSpareRoomIsNotAsked(t *testing.T) {
	f := ofTheChapter()
	l := withRoom(one(3, 500, 560), outage(1, 0, maxTime))
	isNotHeld(t, f, l, lone(noExit, 1, 510))
	right(t, withRoom(manyOutages(100), api.Outage{}), true)
	appliedIs(t, f, withRoom(nil, outage(1, 0, maxTime)), withRoom(withFare(5, lone(noExit, 1, 510)), markGiven), withFare(5, lone(noExit, 1, 510)))
	if got, e := applied(t, f, withRoom(manyOutages(100), api.Outage{}), withRoom(make([]api.Priced, 2000), markGiven)); len(got) != 2000 || e != api.OK {
		t.Error(len(got), e)
	}
}

// P20.4, W2: what is asked again, behind other questions, is answered as at first.
func TestAskedAgain(t *testing.T) {
	rnd := rand.New(rand.NewSource(208))
	f, l := ofTheChapter(), one(3, 500, 560)
	for range 300 {
		isHeld(t, f, l, lone(noExit, 3, 500))
		isNotHeld(t, f, l, lone(noExit, 3, 560))
		right(t, l, true)
		right(t, []api.Outage{{}}, false)
		appliedIs(t, f, l, withFare(300, between(whole, 1, 3, 480, 500)), withFare(0, between(whole, 1, 3, 480, 500)))
		appliedIs(t, f, nil, withFare(300, between(whole, 1, 3, 480, 500)), withFare(300, between(whole, 1, 3, 480, 500)))
		appliedFails(t, f, []api.Outage{{}}, nil, api.ErrRecord)
		x, outages := someTariff(rnd), someOutages(rnd, 4)
		held(t, x, outages, somePriced(rnd).Journey)
		applied(t, x, outages, someJourneys(rnd, 9))
	}
}
