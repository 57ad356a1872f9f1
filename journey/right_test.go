package journey_test

import (
	"math"
	"slices"
	"testing"

	"farebox/api"
)

// notTaps are ways of making a tap one that may not be.
func notTaps() []func(*api.Tap) {
	var l []func(*api.Tap)
	for _, n := range []int{math.MinInt, -1, 0, 65536, math.MaxInt} {
		l = append(l, func(t *api.Tap) { t.Device = n })
		l = append(l, func(t *api.Tap) { t.Kind, t.Place = in, n })
		l = append(l, func(t *api.Tap) { t.Kind, t.Place = out, n })
	}
	for _, n := range []int{math.MinInt, -1, 0, 1 << 32, math.MaxInt} {
		l = append(l, func(t *api.Tap) { t.Counter = n })
	}
	for _, s := range []string{"", "abcdefg", "abcdefghi"} {
		l = append(l, func(t *api.Tap) { t.Token = s })
	}
	for _, n := range []int{math.MinInt, -1, 0, 4, 257, math.MaxInt} {
		l = append(l, func(t *api.Tap) { t.Kind = n })
	}
	for _, n := range []int{-1, 0, 1001, 65535} {
		l = append(l, func(t *api.Tap) { t.Kind, t.Place = bus, n })
	}
	for _, n := range []int{math.MinInt, -1, 1<<31 + 1, math.MaxInt} {
		l = append(l, func(t *api.Tap) { t.Time = n })
	}
	return l
}

// spoilt is a list with one of its taps made another one.
func spoilt(l []api.Tap, at int, spoil func(*api.Tap)) []api.Tap {
	l = slices.Clone(l)
	spoil(&l[at])
	return l
}

// P17.1: no taps, one, as many as there may be, and one more.
func TestRightNumberOfTaps(t *testing.T) {
	rightIs(t, nil, api.OK)
	rightIs(t, []api.Tap{}, api.OK)
	rightIs(t, rising(1, 0), api.OK)
	rightIs(t, rising(1999, 0), api.OK)
	rightIs(t, rising(2000, 0), api.OK)
	rightIs(t, rising(2001, 0), api.ErrLong)
	rightIs(t, rising(5000, 0), api.ErrLong)
}

// P17.1: taps with the least and the greatest numbers that they may have, over many days.
func TestRightAtTheEdges(t *testing.T) {
	rightIs(t, []api.Tap{
		{Device: 1, Counter: 1, Token: token, Kind: in, Place: 1, Time: 0},
		{Device: 1, Counter: 1<<32 - 1, Token: token, Kind: out, Place: 65535, Time: 0},
		{Device: 65535, Counter: 1, Token: token, Kind: bus, Place: 1, Time: 0},
		{Device: 65535, Counter: 1<<32 - 1, Token: token, Kind: bus, Place: 1000, Time: 1},
		{Device: 1, Counter: 1, Token: token, Kind: in, Place: 65535, Time: maxTime},
	}, api.OK)
	rightIs(t, []api.Tap{{Device: 1, Counter: 1, Token: "\x00\xff\x00\xff\x00\xff\x00\xff", Kind: in, Place: 1}}, api.OK)
}

// P17.1: a tap that may not be, at each place.
func TestRightNoTap(t *testing.T) {
	for _, many := range []int{1, 2, 5} {
		for at := range many {
			for _, spoil := range notTaps() {
				rightIs(t, spoilt(rising(many, 600), at, spoil), api.ErrRecord)
			}
		}
	}
	for _, at := range []int{0, 1, 999, 1998, 1999} {
		for _, spoil := range notTaps() {
			rightIs(t, spoilt(rising(2000, 600), at, spoil), api.ErrRecord)
		}
	}
}

// P17.1: another token, at each place: the first one differs from the next, too.
func TestRightOtherToken(t *testing.T) {
	for _, other := range []string{"zzzzzzzz", "abcdefgi", "bbcdefgh", "ABCDEFGH", "aaaaaaaa"} {
		anOther := func(x *api.Tap) { x.Token = other }
		for _, many := range []int{2, 5, 50} {
			for at := range many {
				rightIs(t, spoilt(rising(many, 600), at, anOther), api.ErrTaps)
			}
		}
		for _, at := range []int{0, 1, 999, 1998, 1999} {
			rightIs(t, spoilt(rising(2000, 600), at, anOther), api.ErrTaps)
		}
	}
	rightIs(t, spoilt(rising(1, 600), 0, func(x *api.Tap) { x.Token = "zzzzzzzz" }), api.OK)
	l := rising(5, 600)
	for i := range l {
		l[i].Token = "zzzzzzzz"
	}
	rightIs(t, l, api.OK)
}

// P17.1: two that stand alike, and two the wrong way round, at each place, by each of the three numbers.
func TestRightOutOfOrder(t *testing.T) {
	ways := map[string]func(i int) api.Tap{
		"time":    func(i int) api.Tap { return api.Tap{Time: 600 + i, Device: 9, Counter: 9} },
		"device":  func(i int) api.Tap { return api.Tap{Time: 600, Device: 1 + i, Counter: 9} },
		"counter": func(i int) api.Tap { return api.Tap{Time: 600, Device: 9, Counter: 1 + i} },
		"all":     func(i int) api.Tap { return api.Tap{Time: 600 + i/9, Device: 1 + i/3%3, Counter: 1 + i%3} },
	}
	for way, tapOf := range ways {
		var l []api.Tap
		for i := range 20 {
			x := tapOf(i)
			x.Token, x.Kind, x.Place = token, in, 7
			l = append(l, x)
		}
		rightIs(t, l, api.OK)
		for i := 1; i < len(l); i++ {
			alike := slices.Clone(l)
			alike[i].Time, alike[i].Device, alike[i].Counter = l[i-1].Time, l[i-1].Device, l[i-1].Counter
			rightIs(t, alike, api.ErrTaps)
			alike[i].Kind, alike[i].Place = bus, 8
			rightIs(t, alike, api.ErrTaps)
			swapped := slices.Clone(l)
			swapped[i], swapped[i-1] = l[i-1], l[i]
			rightIs(t, swapped, api.ErrTaps)
			if t.Failed() {
				t.Fatal(way, i)
			}
		}
	}
}

// P17.1: what stands ahead of the one ahead says nothing: taps rise one by one.
func TestRightFromTheFront(t *testing.T) {
	noTap := func(x *api.Tap) { x.Kind = 4 }
	other := func(x *api.Tap) { x.Token = "zzzzzzzz" }
	early := func(x *api.Tap) { x.Time = 0 }
	l := rising(6, 600)
	for i := 1; i < 6; i++ {
		for j := 1; j < 6; j++ {
			for _, wrong := range []func(*api.Tap){other, early} {
				want := api.ErrTaps
				if i <= j {
					want = api.ErrRecord
				}
				rightIs(t, spoilt(spoilt(l, i, noTap), j, wrong), want)
			}
		}
	}
	rightIs(t, spoilt(spoilt(l, 0, noTap), 1, other), api.ErrRecord)
	for _, spoil := range notTaps() {
		rightIs(t, spoilt(spoilt(l, 3, early), 3, spoil), api.ErrRecord)
		rightIs(t, spoilt(spoilt(l, 3, other), 3, spoil), api.ErrRecord)
	}
}

// P17.1: too many is told ahead of all else.
func TestRightTooManyFirst(t *testing.T) {
	l := rising(2001, 600)
	rightIs(t, make([]api.Tap, 2001), api.ErrLong)
	rightIs(t, make([]api.Tap, 2000), api.ErrRecord)
	rightIs(t, spoilt(l, 0, func(x *api.Tap) { x.Kind = 4 }), api.ErrLong)
	rightIs(t, spoilt(l, 1, func(x *api.Tap) { x.Token = "zzzzzzzz" }), api.ErrLong)
	rightIs(t, spoilt(l, 1, func(x *api.Tap) { x.Time = 0 }), api.ErrLong)
	rightIs(t, spoilt(l, 2000, func(x *api.Tap) { x.Time = 0 }), api.ErrLong)
}

// P17.1, W4: every mix of few taps, such as may be and such as may not.
func TestRightEveryMix(t *testing.T) {
	var some []api.Tap
	for _, x := range []api.Tap{{Kind: in, Token: token}, {Kind: in, Token: "zzzzzzzz"}, {Kind: 4, Token: token}} {
		for _, y := range []api.Tap{{Time: 5, Device: 1, Counter: 1}, {Time: 5, Device: 1, Counter: 2}, {Time: 5, Device: 2, Counter: 1}, {Time: 6, Device: 1, Counter: 1}} {
			y.Kind, y.Token, y.Place = x.Kind, x.Token, 3
			some = append(some, y)
		}
	}
	for _, a := range some {
		right(t, []api.Tap{a})
		for _, b := range some {
			right(t, []api.Tap{a, b})
			for _, c := range some {
				right(t, []api.Tap{a, b, c})
				for _, d := range some {
					right(t, []api.Tap{a, b, c, d})
				}
			}
		}
	}
}
