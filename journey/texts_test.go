package journey_test

import (
	"slices"
	"strconv"
	"strings"
	"testing"

	"farebox/api"
	"farebox/journey"
)

const (
	in, out, bus = api.TapEntry, api.TapExit, api.TapBus
	token        = "abcdefgh"
	morning      = 480 // 0 Mon 08:00, behind which the texts' minutes are
	maxTime      = 1 << 31
)

// ofTheChapter is the tariff of the chapter's examples, with two stations more of another group, and one of the greatest Id and Group.
func ofTheChapter() api.Tariff {
	return api.Tariff{
		Stations: []api.Station{{Id: 1, Zone: 1}, {Id: 2, Zone: 2}, {Id: 3, Zone: 1, Group: 7}, {Id: 4, Zone: 1, Group: 7}, {Id: 5, Zone: 1, Group: 8}, {Id: 6, Zone: 2, Group: 8}, {Id: 65535, Zone: 2, Group: 65535}},
		Spans: []api.Span{
			{From: 1, To: 1, Single: 200, Daily: 500, Weekly: 2000},
			{From: 1, To: 2, Single: 300, Daily: 700, Weekly: 2800},
			{From: 2, To: 2, Single: 150, Daily: 500, Weekly: 2000},
		},
		Off: 0.5, Longest: 120, Change: 10, Hopper: 60,
	}
}

// with is the chapter's tariff with other minutes.
func with(longest, change, hopper int) api.Tariff {
	t := ofTheChapter()
	t.Longest, t.Change, t.Hopper = longest, change, hopper
	return t
}

// parts are a text's words, line by line; lines end with a comma.
func parts(s string) [][]string {
	var l [][]string
	for _, line := range strings.Split(s, ",") {
		if words := strings.Fields(line); len(words) > 0 {
			l = append(l, words)
		}
	}
	return l
}

func number(s string) int {
	n, err := strconv.Atoi(s)
	if err != nil {
		panic(err)
	}
	return n
}

// taps are those of a text such as "in 1 0, out 2 30, bus 9 35": a kind, a place, minutes behind the morning.
func taps(s string) []api.Tap { return tapsFrom(morning, s) }

func tapsFrom(begin int, s string) []api.Tap {
	kinds := map[string]int{"in": in, "out": out, "bus": bus}
	var l []api.Tap
	for i, w := range parts(s) {
		l = append(l, api.Tap{Device: 1, Counter: 1 + i, Token: token, Kind: kinds[w[0]], Place: number(w[1]), Time: begin + number(w[2])})
	}
	return l
}

// journeys are those of a text such as "whole 1 2 0 30, noexit 4 35, noentry 1 126, bus 9 0, free 9 60".
func journeys(s string) []api.Journey { return journeysFrom(morning, s) }

func journeysFrom(begin int, s string) []api.Journey {
	kinds := map[string]int{"whole": 1, "noexit": 2, "noentry": 3, "bus": 4, "free": 4}
	var l []api.Journey
	for _, w := range parts(s) {
		j := api.Journey{Kind: kinds[w[0]], From: number(w[1]), Free: w[0] == "free"}
		if w[0] == "whole" {
			j.To, j.Start, j.End = number(w[2]), begin+number(w[3]), begin+number(w[4])
		} else {
			j.To, j.Start, j.End = j.From, begin+number(w[2]), begin+number(w[2])
		}
		l = append(l, j)
	}
	return l
}

// build asks for journeys, and holds them against the chapter told slowly.
func build(t *testing.T, f api.Tariff, l []api.Tap) ([]api.Journey, api.Errno) {
	t.Helper()
	got, e := journey.Build(f, l)
	want, _, wantE := slowBuild(f, l)
	if e != wantE || !slices.Equal(got, want) {
		t.Fatalf("Build of %s: %v, %d, not %v, %d", short(l), got, e, want, wantE)
	}
	return got, e
}

// buildIs holds the journeys of a text's taps against those of another text.
func buildIs(t *testing.T, f api.Tariff, from, want string) {
	t.Helper()
	if got, e := build(t, f, taps(from)); e != api.OK || !slices.Equal(got, journeys(want)) {
		t.Errorf("%s: %v, %d, not %s", from, got, e, want)
	}
}

func buildFails(t *testing.T, f api.Tariff, l []api.Tap, want api.Errno) {
	t.Helper()
	if got, e := build(t, f, l); e != want || len(got) != 0 {
		t.Errorf("Build of %s: %v, %d, not %d", short(l), got, e, want)
	}
}

func right(t *testing.T, l []api.Tap) api.Errno {
	t.Helper()
	e := journey.Right(l)
	if want := slowRight(l); e != want {
		t.Fatalf("Right of %s: %d, not %d", short(l), e, want)
	}
	return e
}

func rightIs(t *testing.T, l []api.Tap, want api.Errno) {
	t.Helper()
	if e := right(t, l); e != want {
		t.Errorf("Right of %s: %d, not %d", short(l), e, want)
	}
}

func days(t *testing.T, l []api.Tap) ([][]api.Tap, api.Errno) {
	t.Helper()
	got, e := journey.Days(l)
	want, wantE := slowDays(l)
	if e != wantE || !slices.EqualFunc(got, want, slices.Equal) {
		t.Fatalf("Days of %s: %v, %d, not %v, %d", short(l), got, e, want, wantE)
	}
	return got, e
}

// short tells taps, not too many of them.
func short(l []api.Tap) string {
	var s strings.Builder
	for i, x := range l {
		if i == 12 {
			s.WriteString(" and " + strconv.Itoa(len(l)-i) + " more")
			break
		}
		s.WriteString("{" + strconv.Itoa(x.Device) + " " + strconv.Itoa(x.Counter) + " " + strconv.Quote(x.Token) + " " + strconv.Itoa(x.Kind) + " " + strconv.Itoa(x.Place) + " " + strconv.Itoa(x.Time) + "}")
	}
	return s.String()
}

// rising are so many taps of rides that may be, a minute apart from a time on.
func rising(n, begin int) []api.Tap {
	var l []api.Tap
	for i := range n {
		l = append(l, api.Tap{Device: 1 + i%7, Counter: 1 + i, Token: token, Kind: bus, Place: 1 + i%1000, Time: begin + i})
	}
	return l
}
