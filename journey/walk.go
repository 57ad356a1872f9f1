package journey

import (
	"farebox/api"
	"farebox/tariff"
)

// noRail says in a walk that there is no journey by rail yet.
const noRail = -1

// walk is what a token's day has come to, as far as its taps were gone through.
type walk struct {
	tariff api.Tariff
	made   []api.Journey
	rail   int         // the place of the last journey by rail
	paid   api.Journey // the last ride that is not free; zero, if there is none
	open   api.Journey // what the last entry comes to if it is closed; zero, if nothing is open
	again  bool        // whether what is open is the last journey by rail, once more
}

// walked are the journeys of taps that may be, of one travel day.
func walked(t api.Tariff, taps []api.Tap) []api.Journey {
	w := walk{tariff: t, rail: noRail}
	for _, x := range taps {
		w.take(x)
	}
	w.closeOpen()
	return w.made
}

// take goes on by a tap. A ride is asked for first: its Place is a route, of which the tariff knows nothing.
func (w *walk) take(t api.Tap) {
	station, known := tariff.Station(w.tariff, t.Place)
	switch {
	case t.Kind == api.TapBus:
		w.ride(t)
	case !known:
		return
	case t.Kind == api.TapEntry:
		w.enter(t, station.Group)
	case t.Kind == api.TapExit:
		w.leave(t)
	}
}

func (w *walk) ride(t api.Tap) {
	ride := lone(api.JourneyBus, t)
	ride.Free = w.paid != (api.Journey{}) && t.Time-w.paid.Start <= w.tariff.Hopper
	if !ride.Free {
		w.paid = ride
	}
	w.made = append(w.made, ride)
}

// enter closes what is open ahead of all else: nobody changes out of a journey that the entry itself leaves without an exit.
func (w *walk) enter(t api.Tap, group int) {
	w.closeOpen()
	w.again = w.changes(t, group)
	w.open = lone(api.JourneyNoExit, t)
}

// changes tells whether an entry at a station of this group leads the last journey by rail on.
func (w *walk) changes(t api.Tap, group int) bool {
	if w.rail == noRail || group == 0 {
		return false
	}
	last := w.made[w.rail]
	to, _ := tariff.Station(w.tariff, last.To)
	inTime := t.Time-last.End <= w.tariff.Change && t.Time-last.Start <= w.tariff.Longest
	return last.Kind == api.JourneyWhole && to.Group == group && inTime
}

func (w *walk) leave(t api.Tap) {
	begun := w.begun()
	if begun == (api.Journey{}) || t.Time-begun.Start > w.tariff.Longest {
		w.closeOpen()
		w.putRail(lone(api.JourneyNoEntry, t))
		return
	}
	whole := api.Journey{Kind: api.JourneyWhole, From: begun.From, To: t.Place, Start: begun.Start, End: t.Time}
	if w.again {
		w.made[w.rail] = whole
	} else {
		w.putRail(whole)
	}
	w.open = api.Journey{}
}

// begun is the journey that says where and when what is open began; zero, if nothing is.
func (w *walk) begun() api.Journey {
	if w.open != (api.Journey{}) && w.again {
		return w.made[w.rail]
	}
	return w.open
}

// closeOpen leaves the last entry without an exit. If by it a journey was open again, that one needs nothing: it was never taken out.
func (w *walk) closeOpen() {
	if w.open == (api.Journey{}) {
		return
	}
	w.putRail(w.open)
	w.open = api.Journey{}
}

func (w *walk) putRail(j api.Journey) {
	w.rail = len(w.made)
	w.made = append(w.made, j)
}

// lone is a journey of which there is one tap alone.
func lone(kind int, t api.Tap) api.Journey {
	return api.Journey{Kind: kind, From: t.Place, To: t.Place, Start: t.Time, End: t.Time}
}
