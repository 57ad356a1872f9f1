package journey_test

import (
	"farebox/api"
	"farebox/tariff"
)

// This file tells the chapter slowly, word by word: each question is asked of all that was made, nothing is kept between taps but what is open.

func slowOrder(a, b api.Tap) int {
	for _, x := range [][2]int{{a.Time, b.Time}, {a.Device, b.Device}, {a.Counter, b.Counter}} {
		if x[0] < x[1] {
			return -1
		}
		if x[0] > x[1] {
			return 1
		}
	}
	return 0
}

// slowMayBe is chapter 8's line of taps.
func slowMayBe(t api.Tap) bool {
	if t.Device < 1 || t.Device > 65535 || t.Counter < 1 || t.Counter > 4294967295 {
		return false
	}
	if len(t.Token) != 8 || t.Time < 0 || t.Time > 2147483648 || t.Place < 1 {
		return false
	}
	switch t.Kind {
	case 1, 2:
		return t.Place <= 65535
	case 3:
		return t.Place <= 1000
	}
	return false
}

func slowRight(l []api.Tap) api.Errno {
	if len(l) > 2000 {
		return 2
	}
	for i, t := range l {
		if !slowMayBe(t) {
			return 80
		}
		if i > 0 && t.Token != l[i-1].Token {
			return 170
		}
		if i > 0 && slowOrder(t, l[i-1]) != 1 {
			return 170
		}
	}
	return 0
}

// slowDay is a time's travel day: what is ahead of the first Monday's half past four is the Sunday's.
func slowDay(time int) int {
	if time < 270 {
		return -1
	}
	return (time - 270) / 1440
}

func slowDays(l []api.Tap) ([][]api.Tap, api.Errno) {
	if e := slowRight(l); e != 0 {
		return nil, e
	}
	of := map[int][]api.Tap{}
	for _, t := range l {
		of[slowDay(t.Time)] = append(of[slowDay(t.Time)], t)
	}
	var out [][]api.Tap
	for i, t := range l {
		if i == 0 || slowDay(t.Time) != slowDay(l[i-1].Time) {
			out = append(out, of[slowDay(t.Time)])
		}
	}
	return out, 0
}

// slowStation is the group of a station, and whether there is one.
func slowStation(f api.Tariff, id int) (int, bool) {
	for _, s := range f.Stations {
		if s.Id == id {
			return s.Group, true
		}
	}
	return 0, false
}

// slowOpen is what is open: the journey as it began, and, if it is open again, its old place and the entry by which it changed.
type slowOpen struct {
	from, since int
	isAgain     bool
	place       int
	entry       api.Tap
}

type slowWalk struct {
	f       api.Tariff
	made    []api.Journey
	open    []slowOpen // none or one
	changes int        // how often something was open again, and became whole
}

// slowBuild answers how many changes there were, too.
func slowBuild(f api.Tariff, l []api.Tap) ([]api.Journey, int, api.Errno) {
	if e := tariff.Right(f); e != 0 {
		return nil, 0, e
	}
	if e := slowRight(l); e != 0 {
		return nil, 0, e
	}
	for _, t := range l {
		if slowDay(t.Time) != slowDay(l[0].Time) {
			return nil, 0, 170
		}
	}
	w := slowWalk{f: f}
	for _, t := range l {
		_, isThere := slowStation(f, t.Place)
		if t.Kind == 3 {
			w.ride(t)
		} else if isThere && t.Kind == 1 {
			w.entry(t)
		} else if isThere && t.Kind == 2 {
			w.exit(t)
		}
	}
	w.shut()
	return w.made, w.changes, 0
}

func (w *slowWalk) ride(t api.Tap) {
	isFree := false
	for _, j := range w.made {
		if j.Kind == 4 && !j.Free {
			isFree = t.Time <= j.Start+w.f.Hopper
		}
	}
	w.made = append(w.made, api.Journey{Kind: 4, From: t.Place, To: t.Place, Start: t.Time, End: t.Time, Free: isFree})
}

func (w *slowWalk) entry(t api.Tap) {
	w.shut()
	if place := w.lastByRail(); place >= 0 && w.leadsOn(w.made[place], t) {
		old := w.made[place]
		w.open = []slowOpen{{from: old.From, since: old.Start, isAgain: true, place: place, entry: t}}
		return
	}
	w.open = []slowOpen{{from: t.Place, since: t.Time}}
}

func (w *slowWalk) lastByRail() int {
	for i := len(w.made) - 1; i >= 0; i-- {
		if w.made[i].Kind != 4 {
			return i
		}
	}
	return -1
}

func (w *slowWalk) leadsOn(j api.Journey, t api.Tap) bool {
	if j.Kind != 1 {
		return false
	}
	s, _ := slowStation(w.f, t.Place)
	to, _ := slowStation(w.f, j.To)
	if s != to || s == 0 {
		return false
	}
	return t.Time <= j.End+w.f.Change && t.Time <= j.Start+w.f.Longest
}

func (w *slowWalk) exit(t api.Tap) {
	if len(w.open) == 1 && t.Time <= w.open[0].since+w.f.Longest {
		o := w.open[0]
		whole := api.Journey{Kind: 1, From: o.from, To: t.Place, Start: o.since, End: t.Time}
		if o.isAgain {
			w.made[o.place] = whole
			w.changes++
		} else {
			w.made = append(w.made, whole)
		}
		w.open = nil
		return
	}
	w.shut()
	w.made = append(w.made, api.Journey{Kind: 3, From: t.Place, To: t.Place, Start: t.Time, End: t.Time})
}

func (w *slowWalk) shut() {
	for _, o := range w.open {
		if o.isAgain {
			w.made = append(w.made, api.Journey{Kind: 2, From: o.entry.Place, To: o.entry.Place, Start: o.entry.Time, End: o.entry.Time})
		} else {
			w.made = append(w.made, api.Journey{Kind: 2, From: o.from, To: o.from, Start: o.since, End: o.since})
		}
	}
	w.open = nil
}
