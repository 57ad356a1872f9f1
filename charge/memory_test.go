package charge_test

import (
	"math/rand"
	"slices"
	"sync"
	"testing"

	"farebox/api"
	"farebox/charge"
)

// withRoom is a list with spare room that is filled by a mark.
func withRoom[T any](l []T, mark T) []T {
	return append(slices.Clone(l), mark, mark, mark)[:len(l)]
}

// watched is a list that was handed in, and what it was, as far as its memory goes.
type watched[T comparable] struct{ list, was []T }

func watch[T comparable](l []T) watched[T] { return watched[T]{l, slices.Clone(l[:cap(l)])} }

func (w watched[T]) isAsItWas() bool { return slices.Equal(w.list[:cap(w.list)], w.was) }

// fill puts a mark everywhere, into the spare room too.
func fill[T any](l []T, mark T) {
	l = l[:cap(l)]
	for i := range l {
		l[i] = mark
	}
}

var (
	markTap     = api.Tap{Device: 77, Counter: 77, Token: "markmark", Kind: bus, Place: 77, Time: 777}
	markOutage  = api.Outage{Station: 77, From: 77, To: 78}
	markStation = api.Station{Id: 77, Zone: 1, Group: 77}
	markSpan    = api.Span{From: 7, To: 7, Single: 77, Daily: 77, Weekly: 77}
	markBand    = api.Band{From: 77, To: 78}
	markBill    = api.Bill{Week: 77, Amount: 77}
	otherBill   = api.Bill{Week: 88, Amount: 88}
)

// handed is all that a call is handed in.
type handed struct {
	tariff  api.Tariff
	outages []api.Outage
	taps    []api.Tap
}

// roomy is the same with spare room behind each list.
func (h handed) roomy() handed {
	f := h.tariff
	f.Stations, f.Spans, f.Peak = withRoom(f.Stations, markStation), withRoom(f.Spans, markSpan), withRoom(f.Peak, markBand)
	return handed{f, withRoom(h.outages, markOutage), withRoom(h.taps, markTap)}
}

// watched asks, from now on, whether all of it is as it was.
func (h handed) watched() func() bool {
	stations, spans, peak := watch(h.tariff.Stations), watch(h.tariff.Spans), watch(h.tariff.Peak)
	outages, taps := watch(h.outages), watch(h.taps)
	return func() bool {
		return stations.isAsItWas() && spans.isAsItWas() && peak.isAsItWas() && outages.isAsItWas() && taps.isAsItWas()
	}
}

// overwrite puts marks over all of it.
func (h handed) overwrite() {
	fill(h.tariff.Stations, markStation)
	fill(h.tariff.Spans, markSpan)
	fill(h.tariff.Peak, markBand)
	fill(h.outages, markOutage)
	fill(h.taps, markTap)
}

// memory holds P21.3 of what is handed in.
func memory(t *testing.T, h handed) {
	t.Helper()
	want, wantE := slowBills(h.tariff, h.outages, h.taps)
	sum := slowCharge(want)
	isAsItWas := h.watched()
	got, e := charge.Bills(h.tariff, h.outages, h.taps)
	again, _ := charge.Bills(h.tariff, h.outages, h.taps)
	n, nE := charge.Charge(h.tariff, h.outages, h.taps)
	if e != wantE || nE != wantE || n != sum || !slices.Equal(got, want) || !slices.Equal(again, want) {
		t.Fatalf("%v, %v, %d, %d, %d, not %v, %d, %d", got, again, e, n, nE, want, sum, wantE)
	}
	if !isAsItWas() {
		t.Fatal("what was handed in was changed")
	}
	fill(got, markBill)
	if !slices.Equal(again, want) || !isAsItWas() {
		t.Fatal("an answer shares memory with another one, or with what was handed in")
	}
	third, _ := charge.Bills(h.tariff, h.outages, h.taps)
	fill(again, otherBill)
	if !slices.Equal(third, want) || slices.Contains(got[:cap(got)], otherBill) {
		t.Fatal("an answer's memory is used again, or what was answered is kept")
	}
	h.overwrite()
	if !slices.Equal(third, want) {
		t.Fatal("an answer hangs on what was handed in")
	}
	bills(t, h.tariff, h.outages, h.taps)
}

// P21.3, W6: any tariffs, outages and taps, now and then such as may not be.
func TestMemory(t *testing.T) {
	rnd := rand.New(rand.NewSource(219))
	for range 1000 {
		f := someTariff(rnd)
		its := someTaps(rnd, f, 30)
		l := someOutages(rnd, its, 4)
		if len(its) > 1 && rnd.Intn(5) == 0 {
			i, k := rnd.Intn(len(its)), rnd.Intn(len(its))
			its[i], its[k] = its[k], its[i]
		}
		if rnd.Intn(10) == 0 {
			l = append(l, api.Outage{})
		}
		memory(t, handed{f, l, its}.roomy())
	}
}

// P21.3: the same where nothing was handed in, with spare room and without, and where there are errors.
func TestMemoryOfNone(t *testing.T) {
	for _, l := range [][]api.Outage{nil, {}, manyOutages(100), {{}}} {
		for _, its := range [][]api.Tap{nil, {}, taps("0 Mon 08:00 in 9"), taps("0 Mon 08:00 in 1, 1 Mon 08:00 in 1, 2 Mon 08:00 in 1"), {{}}, many(300, 10080, 480, bus, 9), many(2001, 1, 480, bus, 9)} {
			for _, f := range []api.Tariff{ofTheWhole(), withoutStations(), {}} {
				memory(t, handed{f, slices.Clone(l), slices.Clone(its)})
				f = ofTheWhole()
				memory(t, handed{f, l, its}.roomy())
			}
		}
	}
}

// P21.1, W6: what lies in a list's spare room is not asked.
func TestSpareRoomIsNotAsked(t *testing.T) {
	f := with(func(f *api.Tariff) {
		f.Stations = withRoom(f.Stations, api.Station{Id: 9, Zone: 1})
		f.Spans = withRoom(f.Spans, api.Span{From: 1, To: 3})
	})
	its := withRoom(taps("0 Mon 08:00 in 1, 0 Mon 08:30 out 2, 0 Mon 09:00 in 9"), taps("0 Mon 10:00 in 1")[0])
	areBills(t, f, withRoom([]api.Outage{}, outages("1 from 0 Mon 08:00 to 0 Mon 09:00")[0]), its, owed("0 300"))
	areBills(t, f, nil, withRoom([]api.Tap{}, taps("0 Mon 10:00 in 1")[0]), nil)
	areBills(t, f, withRoom(manyOutages(100), api.Outage{}), withRoom(many(2000, 0, 480, bus, 9), api.Tap{}), owed("0 175"))
}

// P21.3, W2: what is asked again, behind other questions, is answered as at first.
func TestAskedAgain(t *testing.T) {
	rnd := rand.New(rand.NewSource(220))
	f := ofTheWhole()
	for range 200 {
		billsAre(t, f, "0 Mon 08:00 in 1, 0 Mon 08:30 out 2, 1 Mon 08:00 in 2", "0 300, 1 900")
		disturbedAre(t, f, "2 from 1 Mon 08:00 to 1 Mon 08:01", "0 Mon 08:00 in 1, 0 Mon 08:30 out 2, 1 Mon 08:00 in 2", "0 300, 1 0")
		fails(t, f, nil, taps("0 Mon 08:00 in 1, 0 Mon 07:30 out 2"), api.ErrTaps)
		fails(t, api.Tariff{}, nil, nil, api.ErrTariff)
		fails(t, f, []api.Outage{{}}, nil, api.ErrRecord)
		billsAre(t, f, "", "")
		billsAre(t, ofTheChapter(), "0 Mon 08:00 bus 9, 0 Mon 08:30 bus 9", "0 350")
		billsAre(t, f, "0 Mon 08:00 bus 9, 0 Mon 08:30 bus 9", "0 175")
		x := someTariff(rnd)
		its := someTaps(rnd, x, 20)
		bills(t, x, someOutages(rnd, its, 3), its)
	}
}

// W2: what is asked at once by many is answered to each as if it were alone.
func TestAskedAtOnce(t *testing.T) {
	rnd := rand.New(rand.NewSource(221))
	var all sync.WaitGroup
	for range 16 {
		f := someTariff(rnd)
		its := someTaps(rnd, f, 40)
		l := someOutages(rnd, its, 3)
		want, wantE := slowBills(f, l, its)
		all.Go(func() {
			for range 200 {
				if got, e := charge.Bills(f, l, its); e != wantE || !slices.Equal(got, want) {
					t.Errorf("%v, %d, not %v, %d", got, e, want, wantE)
					return
				}
			}
		})
	}
	all.Wait()
}
