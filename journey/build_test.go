package journey_test

import (
	"slices"
	"strconv"
	"testing"

	"farebox/api"
)

// P17.3: the chapter's examples, and those of the document's whole that are journeys.
func TestChapter(t *testing.T) {
	for from, want := range map[string]string{
		"":                                    "",
		"in 1 0, out 2 30":                    "whole 1 2 0 30",
		"in 1 0, out 3 30, in 4 35, out 2 60": "whole 1 2 0 60",
		"in 1 0, out 3 30, in 4 35":           "whole 1 3 0 30, noexit 4 35",
		"in 1 0, out 3 30, in 4 41, out 2 60": "whole 1 3 0 30, whole 4 2 41 60",
		"in 1 0, in 2 5, out 1 126":           "noexit 1 0, noexit 2 5, noentry 1 126",
		"bus 9 0, in 8 10, bus 9 60, bus 9 61, bus 9 122": "bus 9 0, free 9 60, bus 9 61, bus 9 122",
		"in 1 0": "noexit 1 0",
	} {
		buildIs(t, ofTheChapter(), from, want)
	}
}

// P17.3: each kind of tap with nothing open, with something open, with something open again.
func TestEachKind(t *testing.T) {
	for from, want := range map[string]string{
		"bus 9 0": "bus 9 0",
		"in 1 0":  "noexit 1 0",
		"out 1 0": "noentry 1 0",

		"in 1 0, bus 9 1":          "bus 9 1, noexit 1 0",
		"in 1 0, bus 9 1, out 2 2": "bus 9 1, whole 1 2 0 2",
		"in 1 0, in 2 1":           "noexit 1 0, noexit 2 1",
		"in 1 0, in 1 1":           "noexit 1 0, noexit 1 1",
		"in 3 0, in 4 1, out 3 2":  "noexit 3 0, whole 4 3 1 2",
		"in 1 0, out 1 1":          "whole 1 1 0 1",
		"in 1 0, out 2 0":          "whole 1 2 0 0",
		"in 1 0, out 2 1, out 2 2": "whole 1 2 0 1, noentry 2 2",

		"in 1 0, out 3 1, in 4 2, bus 9 3":                       "whole 1 3 0 1, bus 9 3, noexit 4 2",
		"in 1 0, out 3 1, in 4 2, bus 9 3, out 2 4":              "whole 1 2 0 4, bus 9 3",
		"in 1 0, out 3 1, bus 9 2, in 4 3, bus 9 4, out 2 5":     "whole 1 2 0 5, bus 9 2, free 9 4",
		"bus 9 0, in 1 1, bus 9 2, out 3 3, in 4 4, out 2 5":     "bus 9 0, free 9 2, whole 1 2 1 5",
		"in 1 0, out 3 1, in 4 2, in 4 3":                        "whole 1 3 0 1, noexit 4 2, noexit 4 3",
		"in 1 0, out 3 1, in 4 2, in 4 3, out 2 4":               "whole 1 3 0 1, noexit 4 2, whole 4 2 3 4",
		"in 1 0, out 3 1, in 4 2, out 2 3":                       "whole 1 2 0 3",
		"in 1 0, out 3 1, in 4 2, out 2 3, out 2 4":              "whole 1 2 0 3, noentry 2 4",
		"in 1 0, out 3 1, in 4 2, out 4 2":                       "whole 1 4 0 2",
		"in 3 0, out 3 0, in 3 0, out 3 0":                       "whole 3 3 0 0",
		"in 1 0, out 3 1, in 4 2, out 3 3, in 3 4":               "whole 1 3 0 3, noexit 3 4",
		"out 3 0, in 4 1, out 2 2":                               "noentry 3 0, whole 4 2 1 2",
		"out 3 0, out 4 1":                                       "noentry 3 0, noentry 4 1",
		"in 1 0, out 2 1, in 1 2, out 2 3, in 2 4, out 1 5":      "whole 1 2 0 1, whole 1 2 2 3, whole 2 1 4 5",
		"in 1 0, out 3 1, bus 9 2, in 4 3":                       "whole 1 3 0 1, bus 9 2, noexit 4 3",
		"in 2 0, out 65535 1, in 65535 2, out 1 3":               "whole 2 1 0 3",
		"bus 65 0, bus 1000 1, bus 1 2, bus 3 3, out 3 4":        "bus 65 0, free 1000 1, free 1 2, free 3 3, noentry 3 4",
		"in 1 0, out 3 5, bus 3 6, in 4 7, bus 4 8, out 65535 9": "whole 1 65535 0 9, bus 3 6, free 4 8",
	} {
		buildIs(t, ofTheChapter(), from, want)
	}
}

// P17.3: an entry changes up to the last minute of Change, and not one later.
func TestChangeInTime(t *testing.T) {
	for _, change := range []int{0, 1, 10, 119} {
		f := with(120, change, 60)
		last := strconv.Itoa(1 + change)
		late := strconv.Itoa(2 + change)
		buildIs(t, f, "in 1 0, out 3 1, in 4 "+last+", out 2 120", "whole 1 2 0 120")
		buildIs(t, f, "in 1 0, out 3 1, in 4 "+last, "whole 1 3 0 1, noexit 4 "+last)
		buildIs(t, f, "in 1 0, out 3 1, in 4 "+late+", out 2 122", "whole 1 3 0 1, whole 4 2 "+late+" 122")
		buildIs(t, f, "in 1 0, out 3 1, in 4 "+late, "whole 1 3 0 1, noexit 4 "+late)
	}
	f := with(120, 0, 60)
	buildIs(t, f, "in 1 0, out 3 1, in 4 1, out 2 2", "whole 1 2 0 2")
	buildIs(t, f, "in 1 0, out 3 1, in 4 2, out 2 3", "whole 1 3 0 1, whole 4 2 2 3")
}

// P17.3: an entry changes up to the last minute of Longest behind the Start, and not one later, though Change has not passed.
func TestChangeWithinLongest(t *testing.T) {
	f := with(100, 30, 60)
	buildIs(t, f, "in 1 0, out 3 90, in 4 100, out 2 100", "whole 1 2 0 100")
	buildIs(t, f, "in 1 0, out 3 90, in 4 100, out 2 101", "whole 1 3 0 90, noexit 4 100, noentry 2 101")
	buildIs(t, f, "in 1 0, out 3 90, in 4 101, out 2 102", "whole 1 3 0 90, whole 4 2 101 102")
	buildIs(t, f, "in 1 0, out 3 100, in 4 100, out 2 100", "whole 1 2 0 100")
	buildIs(t, f, "in 1 0, out 3 100, in 4 101, out 2 101", "whole 1 3 0 100, whole 4 2 101 101")
	buildIs(t, f, "in 1 0, out 3 70, in 4 100, out 2 100", "whole 1 2 0 100")
	buildIs(t, f, "in 1 0, out 3 69, in 4 100, out 2 100", "whole 1 3 0 69, whole 4 2 100 100")
}

// P17.3: only between stations of one Group that is not 0; the station itself is one of its Group.
func TestChangeByGroup(t *testing.T) {
	f := ofTheChapter()
	for _, from := range f.Stations {
		for _, s := range f.Stations {
			to, by := strconv.Itoa(from.Id), strconv.Itoa(s.Id)
			want := "whole 1 " + to + " 0 1, whole " + by + " 5 2 3"
			if from.Group == s.Group && s.Group != 0 {
				want = "whole 1 5 0 3"
			}
			buildIs(t, f, "in 1 0, out "+to+" 1, in "+by+" 2, out 5 3", want)
		}
	}
}

// P17.3: the station at which the last journey ended counts, not the one at which it began.
func TestChangeFromWhereItEnded(t *testing.T) {
	buildIs(t, ofTheChapter(), "in 3 0, out 1 1, in 4 2, out 2 3", "whole 3 1 0 1, whole 4 2 2 3")
	buildIs(t, ofTheChapter(), "in 3 0, out 5 1, in 4 2, out 2 3", "whole 3 5 0 1, whole 4 2 2 3")
	buildIs(t, ofTheChapter(), "in 3 0, out 5 1, in 6 2, out 2 3", "whole 3 2 0 3")
}

// P17.3: the last journey by rail must be whole; one that was whole earlier leads nowhere; rides between are none.
func TestChangeOutOfTheLast(t *testing.T) {
	for from, want := range map[string]string{
		"out 3 0, in 4 1, out 2 2":                           "noentry 3 0, whole 4 2 1 2",
		"in 3 0, in 4 1, out 2 2":                            "noexit 3 0, whole 4 2 1 2",
		"in 1 0, out 3 1, out 3 2, in 4 3, out 2 4":          "whole 1 3 0 1, noentry 3 2, whole 4 2 3 4",
		"in 1 0, out 3 1, out 5 2, in 4 3, out 2 4":          "whole 1 3 0 1, noentry 5 2, whole 4 2 3 4",
		"in 1 0, out 3 1, in 1 2, in 4 3, out 2 4":           "whole 1 3 0 1, noexit 1 2, whole 4 2 3 4",
		"in 1 0, out 3 1, in 4 2, in 4 3, out 2 4":           "whole 1 3 0 1, noexit 4 2, whole 4 2 3 4",
		"in 1 0, out 3 1, in 1 2, out 2 3, in 4 4, out 2 5":  "whole 1 3 0 1, whole 1 2 2 3, whole 4 2 4 5",
		"in 1 0, out 3 1, bus 9 2, in 4 3, out 2 4":          "whole 1 2 0 4, bus 9 2",
		"in 1 0, out 3 1, bus 9 2, bus 4 2, in 4 3, out 2 4": "whole 1 2 0 4, bus 9 2, free 4 2",
		"out 2 0, in 1 1, out 3 2, in 4 3, out 2 4":          "noentry 2 0, whole 1 2 1 4",
		"in 2 0, in 1 1, out 3 2, in 4 3, out 2 4":           "noexit 2 0, whole 1 2 1 4",
		"in 1 0, out 3 1, in 8 2, out 8 3, in 4 4, out 2 5":  "whole 1 2 0 5",
		"in 1 0, out 2 1, in 1 2, out 3 3, in 4 4, out 2 5":  "whole 1 2 0 1, whole 1 2 2 5",
		"bus 9 0, in 4 1, out 2 2":                           "bus 9 0, whole 4 2 1 2",
		"bus 3 0, in 4 1, out 2 2":                           "bus 3 0, whole 4 2 1 2",
		"in 1 0, out 3 1, in 4 2, out 2 3, in 4 4, out 1 5":  "whole 1 2 0 3, whole 4 1 4 5",
		"in 1 0, out 3 1, in 4 2, out 5 3, in 6 4, out 1 5":  "whole 1 1 0 5",
		"in 1 0, out 3 1, in 4 2, out 5 3, in 3 4, out 1 5":  "whole 1 5 0 3, whole 3 1 4 5",
	} {
		buildIs(t, ofTheChapter(), from, want)
	}
}

// P17.3: an exit at the last minute of Longest, and one later.
func TestExitInTime(t *testing.T) {
	for _, longest := range []int{1, 2, 120, 900} {
		f := with(longest, 10, 60)
		last, late := strconv.Itoa(longest), strconv.Itoa(longest+1)
		buildIs(t, f, "in 1 0, out 2 "+last, "whole 1 2 0 "+last)
		buildIs(t, f, "in 1 0, out 2 "+late, "noexit 1 0, noentry 2 "+late)
		buildIs(t, f, "in 1 0, bus 9 1, out 2 "+late+", out 2 "+late, "bus 9 1, noexit 1 0, noentry 2 "+late+", noentry 2 "+late)
		buildIs(t, f, "in 3 0, out 3 "+late+", in 4 "+late+", out 2 "+late, "noexit 3 0, noentry 3 "+late+", whole 4 2 "+late+" "+late)
	}
}

// P17.3: the same of a journey that is open again: its Start counts, not the entry by which it changed.
func TestExitInTimeAgain(t *testing.T) {
	f := ofTheChapter()
	buildIs(t, f, "in 1 0, out 3 100, in 4 105, out 2 120", "whole 1 2 0 120")
	buildIs(t, f, "in 1 0, out 3 100, in 4 105, out 2 121", "whole 1 3 0 100, noexit 4 105, noentry 2 121")
	buildIs(t, f, "in 1 0, out 3 100, in 4 105, bus 9 106, out 2 121", "whole 1 3 0 100, bus 9 106, noexit 4 105, noentry 2 121")
	buildIs(t, f, "in 1 0, out 3 50, in 4 55, out 5 105, in 6 110, out 2 120", "whole 1 2 0 120")
	buildIs(t, f, "in 1 0, out 3 50, in 4 55, out 5 105, in 6 110, out 2 121", "whole 1 5 0 105, noexit 6 110, noentry 2 121")
}

// P17.3: closing of what is open and of what is open again, by an entry, by an exit that is too late, in the end: it stands behind rides that came meanwhile.
func TestClosing(t *testing.T) {
	for from, want := range map[string]string{
		"in 1 0, bus 9 1, in 2 2, out 1 3":                          "bus 9 1, noexit 1 0, whole 2 1 2 3",
		"in 1 0, bus 9 1, out 2 121":                                "bus 9 1, noexit 1 0, noentry 2 121",
		"in 1 0, bus 9 1, bus 8 2":                                  "bus 9 1, free 8 2, noexit 1 0",
		"in 1 0, out 3 1, bus 9 2, in 4 3, bus 8 4, in 2 5":         "whole 1 3 0 1, bus 9 2, free 8 4, noexit 4 3, noexit 2 5",
		"in 1 0, out 3 1, bus 9 2, in 4 3, bus 8 4, out 2 121":      "whole 1 3 0 1, bus 9 2, free 8 4, noexit 4 3, noentry 2 121",
		"in 1 0, out 3 1, bus 9 2, in 4 3, bus 8 4":                 "whole 1 3 0 1, bus 9 2, free 8 4, noexit 4 3",
		"in 1 0, out 2 121, out 2 122":                              "noexit 1 0, noentry 2 121, noentry 2 122",
		"in 1 0, out 3 1, in 4 2, out 2 121, out 2 122":             "whole 1 3 0 1, noexit 4 2, noentry 2 121, noentry 2 122",
		"in 1 0, out 3 121, in 4 122, out 2 123":                    "noexit 1 0, noentry 3 121, whole 4 2 122 123",
		"in 1 0, out 3 1, in 4 2, out 3 121, in 4 122":              "whole 1 3 0 1, noexit 4 2, noentry 3 121, noexit 4 122",
		"in 1 0, in 2 120, out 1 121":                               "noexit 1 0, whole 2 1 120 121",
		"in 1 0, out 3 1, in 4 2, in 3 3, out 3 4, in 4 5, out 2 6": "whole 1 3 0 1, noexit 4 2, whole 3 2 3 6",
	} {
		buildIs(t, ofTheChapter(), from, want)
	}
}

// P17.3: several changes in one journey, up to as many as Longest lets through; it keeps its place ahead of rides.
func TestSeveralChanges(t *testing.T) {
	from := "in 1 0, out 3 1"
	rides := ""
	for i := 2; i < 118; i += 4 {
		a, b, c := strconv.Itoa(i), strconv.Itoa(i+1), strconv.Itoa(i+2)
		from += ", in 4 " + a + ", bus 9 " + b + ", out 3 " + c
		kind := "free"
		if i == 2 || i-2 > 60 && i-2 <= 64 {
			kind = "bus"
		}
		rides += ", " + kind + " 9 " + b
		buildIs(t, ofTheChapter(), from, "whole 1 3 0 "+c+rides)
	}
	buildIs(t, ofTheChapter(), from+", in 3 119, out 2 120", "whole 1 2 0 120"+rides)
	buildIs(t, ofTheChapter(), from+", in 3 119", "whole 1 3 0 116"+rides+", noexit 3 119")
	buildIs(t, ofTheChapter(), from+", in 3 121, out 2 122", "whole 1 3 0 116"+rides+", whole 3 2 121 122")
}

// P17.3: rides at the last minute of Hopper and one later; a free one does not lead on.
func TestHopper(t *testing.T) {
	f := ofTheChapter()
	buildIs(t, f, "bus 9 0, bus 9 60", "bus 9 0, free 9 60")
	buildIs(t, f, "bus 9 0, bus 9 61", "bus 9 0, bus 9 61")
	buildIs(t, f, "bus 9 0, bus 9 0, bus 9 0", "bus 9 0, free 9 0, free 9 0")
	buildIs(t, f, "bus 9 0, bus 8 30, bus 7 60, bus 6 61, bus 5 121, bus 4 122", "bus 9 0, free 8 30, free 7 60, bus 6 61, free 5 121, bus 4 122")
	buildIs(t, f, "bus 9 0, bus 8 60, bus 7 90, bus 7 120, bus 7 150, bus 7 151", "bus 9 0, free 8 60, bus 7 90, free 7 120, free 7 150, bus 7 151")
	buildIs(t, f, "in 1 0, out 2 1, bus 9 2", "whole 1 2 0 1, bus 9 2")
	buildIs(t, f, "bus 9 0, in 1 1, out 2 2, in 2 3, bus 9 60, bus 9 61", "bus 9 0, whole 1 2 1 2, free 9 60, bus 9 61, noexit 2 3")
	buildIs(t, with(120, 10, 0), "bus 9 0, bus 9 0, bus 9 1, bus 9 1, bus 9 2", "bus 9 0, free 9 0, bus 9 1, free 9 1, bus 9 2")
	buildIs(t, with(120, 10, 1), "bus 9 0, bus 9 1, bus 9 2, bus 9 3", "bus 9 0, free 9 1, bus 9 2, free 9 3")
}

// P17.3: the greatest minutes that a tariff may have: a day's first minute and its last.
func TestGreatestMinutes(t *testing.T) {
	f := with(1440, 1440, 1440)
	begin := 270 - morning
	first, last := strconv.Itoa(begin), strconv.Itoa(begin+1439)
	buildIs(t, f, "in 1 "+first+", out 2 "+last, "whole 1 2 "+first+" "+last)
	buildIs(t, f, "in 1 "+first+", out 3 "+first+", in 4 "+last+", out 2 "+last, "whole 1 2 "+first+" "+last)
	buildIs(t, f, "bus 9 "+first+", bus 9 "+last, "bus 9 "+first+", free 9 "+last)
	f = with(1439, 1439, 1439)
	buildIs(t, f, "in 1 "+first+", out 3 "+first+", in 4 "+last+", out 2 "+last, "whole 1 2 "+first+" "+last)
	f = with(1438, 1438, 1438)
	buildIs(t, f, "in 1 "+first+", out 2 "+last, "noexit 1 "+first+", noentry 2 "+last)
	buildIs(t, f, "bus 9 "+first+", bus 9 "+last, "bus 9 "+first+", bus 9 "+last)
}

// P17.3: a day ahead of the first Monday, days of other weeks, the last times that there are.
func TestOtherDays(t *testing.T) {
	for _, begin := range []int{0, 1440 + 480, 10080 + 480, 6*1440 + 1380, maxTime - 60} {
		got, e := build(t, ofTheChapter(), tapsFrom(begin, "in 1 0, bus 9 10, out 3 30, in 4 35, out 2 60"))
		if want := journeysFrom(begin, "bus 9 10, whole 1 2 0 60"); e != api.OK || !slices.Equal(got, want) {
			t.Errorf("from %d on: %v, %d", begin, got, e)
		}
	}
}

// P17.3: taps that are not known change nothing, wherever they stand; rides are known on any route.
func TestNotKnown(t *testing.T) {
	for from, want := range map[string]string{
		"in 8 0":  "",
		"out 8 0": "",
		"in 7 0, out 7 1, in 65534 2, out 10000 3": "",
		"in 8 0, out 2 1":                          "noentry 2 1",
		"in 1 0, out 8 1":                          "noexit 1 0",
		"in 1 0, in 8 1, out 2 2":                  "whole 1 2 0 2",
		"in 1 0, out 8 1, out 2 2":                 "whole 1 2 0 2",
		"in 1 0, out 8 130":                        "noexit 1 0",
		"in 1 0, out 8 125, out 2 126":             "noexit 1 0, noentry 2 126",
		"out 8 0, bus 8 1, in 8 2":                 "bus 8 1",
		"in 8 0, in 1 1, in 8 2, out 8 3, out 3 4, out 8 5, in 8 6, in 4 7, out 8 8, in 8 9, out 2 10, in 8 11, out 8 12": "whole 1 2 1 10",
	} {
		buildIs(t, ofTheChapter(), from, want)
	}
	none := ofTheChapter()
	none.Stations, none.Spans = nil, none.Spans[:1]
	buildIs(t, none, "in 1 0, bus 1 1, out 2 2, bus 1000 3", "bus 1 1, free 1000 3")
	buildIs(t, none, "", "")
}

// P17.3: each of the errors.
func TestBuildErrors(t *testing.T) {
	f := ofTheChapter()
	for i, x := range wrongTariffs() {
		buildFails(t, x.tariff, nil, x.want)
		buildFails(t, x.tariff, taps("in 1 0, out 2 30"), x.want)
		if t.Failed() {
			t.Fatal(i)
		}
	}
	buildFails(t, f, rising(2001, 270), api.ErrLong)
	for i := range 3 {
		l := taps("in 1 0, bus 9 5, out 2 30")
		for _, spoil := range notTaps() {
			buildFails(t, f, spoilt(l, i, spoil), api.ErrRecord)
		}
		buildFails(t, f, spoilt(l, i, func(x *api.Tap) { x.Token = "zzzzzzzz" }), api.ErrTaps)
	}
	buildFails(t, f, taps("in 1 5, out 2 4"), api.ErrTaps)
	buildFails(t, f, at(1709, 1710), api.ErrTaps)
	buildFails(t, f, at(269, 270), api.ErrTaps)
	buildFails(t, f, at(480, 481, 482, 480+1440), api.ErrTaps)
	buildFails(t, f, at(480, 480+7*1440), api.ErrTaps)
	buildFails(t, f, at(0, maxTime), api.ErrTaps)
	buildFails(t, f, taps("in 1 0, out 2 1440"), api.ErrTaps)
	buildFails(t, f, taps("in 8 0, out 8 1440"), api.ErrTaps)
	buildFails(t, f, taps("in 1 0, out 2 1, in 8 1440"), api.ErrTaps)
	buildFails(t, f, taps("in 8 0, in 1 1440, out 2 1441"), api.ErrTaps)
}

type wrongTariff struct {
	tariff api.Tariff
	want   api.Errno
}

// wrongTariffs are such as may not be, of each of tariff.Right's errors.
func wrongTariffs() []wrongTariff {
	var l []wrongTariff
	wrong := func(want api.Errno, spoil func(*api.Tariff)) {
		f := ofTheChapter()
		spoil(&f)
		l = append(l, wrongTariff{f, want})
	}
	wrong(api.ErrTariff, func(f *api.Tariff) { *f = api.Tariff{} })
	wrong(api.ErrTariff, func(f *api.Tariff) { f.Longest = 0 })
	wrong(api.ErrTariff, func(f *api.Tariff) { f.Longest = 1441 })
	wrong(api.ErrTariff, func(f *api.Tariff) { f.Change = -1 })
	wrong(api.ErrTariff, func(f *api.Tariff) { f.Hopper = 1441 })
	wrong(api.ErrTariff, func(f *api.Tariff) { f.Stations[1].Id = 1 })
	wrong(api.ErrTariff, func(f *api.Tariff) { f.Stations[0].Group = 65536 })
	wrong(api.ErrTariff, func(f *api.Tariff) { f.Spans = nil })
	wrong(api.ErrMoney, func(f *api.Tariff) { f.Most = -1 })
	wrong(api.ErrMoney, func(f *api.Tariff) { f.Bus = 1<<20 + 1 })
	wrong(api.ErrRate, func(f *api.Tariff) { f.Off = 1.5 })
	return l
}

// P17.3, W4: which of the errors comes first.
func TestFirstError(t *testing.T) {
	f := ofTheChapter()
	twoDays := at(480, 481, 480+1440)
	lists := [][]api.Tap{
		rising(2001, 270),
		make([]api.Tap, 2001),
		spoilt(twoDays, 0, func(x *api.Tap) { x.Kind = 0 }),
		spoilt(twoDays, 1, func(x *api.Tap) { x.Time = 0 }),
		twoDays,
	}
	for _, l := range lists {
		for _, x := range wrongTariffs() {
			buildFails(t, x.tariff, l, x.want)
		}
	}
	buildFails(t, f, rising(2001, 270), api.ErrLong)
	buildFails(t, f, spoilt(rising(2001, 270), 0, func(x *api.Tap) { x.Kind = 0 }), api.ErrLong)
	for i := range twoDays {
		buildFails(t, f, spoilt(twoDays, i, func(x *api.Tap) { x.Kind = 0 }), api.ErrRecord)
	}
	buildFails(t, f, append(slices.Clone(twoDays), api.Tap{}), api.ErrRecord)
	buildFails(t, f, append(slices.Clone(twoDays), twoDays[0]), api.ErrTaps)
}

// P17.3: as many taps as there may be, of one day.
func TestFullDay(t *testing.T) {
	places := []int{1, 3, 4, 5, 6, 8}
	for _, kinds := range [][]int{{in, out}, {in}, {out}, {bus}, {in, bus, out, bus}, {in, in, out}} {
		var l []api.Tap
		for i := range 2000 {
			l = append(l, api.Tap{Device: 3, Counter: 1 + i, Token: token, Kind: kinds[i%len(kinds)], Place: places[i*7/3%len(places)], Time: 270 + i*1439/1999})
		}
		if _, e := build(t, ofTheChapter(), l); e != api.OK {
			t.Error(e)
		}
	}
}
