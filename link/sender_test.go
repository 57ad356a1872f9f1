package link_test

import (
	"math"
	"math/rand"
	"slices"
	"strings"
	"testing"

	"farebox/api"
	"farebox/link"
)

// P12.2: each of the three numbers at its edges, beside others that may be and that may not.
func TestNewSender(t *testing.T) {
	numbers := func(most int) (yes, no []int) {
		return []int{1, 2, most - 1, most}, []int{math.MinInt, -1, 0, most + 1, most + 2, 1 << 32, 1<<32 + 1, math.MaxInt}
	}
	windows, noWindows := numbers(64)
	batches, noBatches := numbers(8)
	everies, noEveries := numbers(1000)
	for _, window := range append(windows, noWindows...) {
		for _, batch := range append(batches, noBatches...) {
			for _, every := range append(everies, noEveries...) {
				want := api.OK
				if slices.Contains(noWindows, window) || slices.Contains(noBatches, batch) || slices.Contains(noEveries, every) {
					want = api.ErrArg
				}
				s, e := link.NewSender(window, batch, every)
				if e != want || (s == nil) != (want != api.OK) {
					t.Errorf("NewSender(%d, %d, %d): %v, %d, not %d", window, batch, every, s, e, want)
				}
			}
		}
	}
}

// P12.3: the chapter's examples.
func TestTickExamples(t *testing.T) {
	s := newSender(t, 3, 2, 2)
	all := items(5, "a", "b", "c", "d")
	s.sends(all, frame(5, 5, "a", "b"), frame(5, 7, "c"))
	s.sends(all)
	s.sends(all, frame(5, 5, "a", "b"), frame(5, 7, "c"))
	s.sends(all[2:], frame(7, 8, "d"))
	s.sends(all[2:], frame(7, 7, "c"))
}

// P12.3: the first window of the items, and no more, however many there are.
func TestTickOfWindows(t *testing.T) {
	for _, window := range []int{1, 2, 7, 8, 9, 63, 64} {
		for _, many := range []int{0, 1, window - 1, window, window + 1, 2 * window, 5000} {
			s := newSender(t, window, 8, 3)
			sent := 0
			for _, f := range s.tick(numbered(1, many)) {
				sent += len(f.Items)
			}
			if sent != min(window, many) {
				t.Errorf("%d of %d items, of a window of %d", sent, many, window)
			}
			s.rests(2, numbered(1, many))
			if n := len(s.tick(numbered(1, many))); n != (min(window, many)+7)/8 {
				t.Errorf("%d frames of %d items, of a window of %d", n, many, window)
			}
		}
	}
}

// P12.3: a row that is longer than batch: its first batch ones, as long as it is longer.
func TestTickOfRows(t *testing.T) {
	for batch := 1; batch <= 8; batch++ {
		for many := range 25 {
			s := newSender(t, 64, batch, 1)
			var sizes []int
			for _, f := range s.tick(numbered(9, many)) {
				sizes = append(sizes, len(f.Items))
			}
			want := slices.Repeat([]int{batch}, many/batch)
			if many%batch > 0 {
				want = append(want, many%batch)
			}
			if !slices.Equal(sizes, want) {
				t.Errorf("%d items in frames of %d: %v, not %v", many, batch, sizes, want)
			}
		}
	}
}

// P12.3: an item is due again just when it was sent every ticks ago, not one tick earlier.
func TestTickAgain(t *testing.T) {
	one := items(4, "x")
	for _, every := range []int{1, 2, 3, 10, 999, 1000} {
		s := newSender(t, 1, 1, every)
		for range 4 {
			s.sends(one, frame(4, 4, "x"))
			s.rests(every-1, one)
		}
	}
}

// P12.3: gaps among those that are due make rows of their own; a row goes on over those that were never sent.
func TestTickWithGaps(t *testing.T) {
	s := newSender(t, 6, 8, 4)
	all := items(1, "a", "b", "c", "d", "e", "f", "g", "h")
	s.sends(all[1:3], frame(2, 2, "b", "c"))
	s.sends(all, frame(1, 1, "a"), frame(1, 4, "d", "e", "f"))
	s.rests(2, all)
	s.sends(all, frame(1, 2, "b", "c"))
	s.sends(all, frame(1, 1, "a"), frame(1, 4, "d", "e", "f"))
	s.sends(all[1:], frame(2, 7, "g"))
	s.rests(1, all[1:])
	s.sends(all[1:], frame(2, 2, "b", "c"))
	s.sends(all[1:], frame(2, 4, "d", "e", "f"))
}

// P12.3: where what is due behind a gap has more than one frame, each row is cut by itself.
func TestTickWithGapsAndBatches(t *testing.T) {
	s := newSender(t, 9, 2, 9)
	all := items(1, "a", "b", "c", "d", "e", "f", "g", "h", "i")
	s.sends(all[3:4], frame(4, 4, "d"))
	s.sends(all, frame(1, 1, "a", "b"), frame(1, 3, "c"), frame(1, 5, "e", "f"), frame(1, 7, "g", "h"), frame(1, 9, "i"))
	s.rests(7, all)
	s.sends(all, frame(1, 4, "d"))
	s.sends(all, frame(1, 1, "a", "b"), frame(1, 3, "c"), frame(1, 5, "e", "f"), frame(1, 7, "g", "h"), frame(1, 9, "i"))
}

// P12.3: Base is the first item's number, also where that is not due.
func TestTickBase(t *testing.T) {
	s := newSender(t, 2, 1, 3)
	s.sends(items(7, "a"), frame(7, 7, "a"))
	s.sends(items(7, "a", "b"), frame(7, 8, "b"))
	s.sends(items(7, "a", "b", "c"))
	s.sends(items(7, "a", "b", "c"), frame(7, 7, "a"))
	s.sends(items(8, "b", "c"), frame(8, 8, "b"), frame(8, 9, "c"))
}

// P12.3: what stands ahead of the first item is forgotten, what stands behind it is not: an item that comes again was never sent.
func TestTickForgets(t *testing.T) {
	s := newSender(t, 3, 3, 1000)
	all := items(1, "a", "b", "c")
	s.sends(all, frame(1, 1, "a", "b", "c"))
	s.sends(all[1:])
	s.sends(all, frame(1, 1, "a"))
	s.sends(all[2:])
	s.sends(all, frame(1, 1, "a", "b"))
	s.sends(items(4, "d"), frame(4, 4, "d"))
	s.sends(all, frame(1, 1, "a", "b", "c"))
	s.sends(all[:1])
	s.sends(all)
	s.sends(items(1, "a", "b", "c", "d"))
	s.sends(items(2, "b", "c", "d"))
	s.sends(items(3, "c", "d", "e"), frame(3, 5, "e"))
}

// P12.3: a Tick without items forgets all.
func TestTickOfNothing(t *testing.T) {
	all := items(1, "a", "b", "c")
	for _, none := range [][]api.Item{nil, {}, all[:0]} {
		s := newSender(t, 3, 3, 1000)
		s.sends(none)
		s.sends(all, frame(1, 1, "a", "b", "c"))
		s.sends(all)
		s.sends(none)
		s.sends(all, frame(1, 1, "a", "b", "c"))
		s.sends(all[2:])
		s.sends(none)
		s.sends(none)
		s.sends(all[2:], frame(3, 3, "c"))
		s.sends(all, frame(1, 1, "a", "b"))
	}
}

// P12.3: an item that changed its bytes is known by its number alone; what is sent are the bytes that there are now.
func TestTickOfOtherBytes(t *testing.T) {
	s := newSender(t, 3, 3, 2)
	s.sends(items(1, "a", "b"), frame(1, 1, "a", "b"))
	s.sends(items(1, "c", "d"))
	s.sends(items(1, "e", "f"), frame(1, 1, "e", "f"))
}

// wrongLists are no queue's first items.
func wrongLists() [][]api.Item {
	long := strings.Repeat("x", 257)
	many := numbered(1, 200)
	many[199].Seq++
	late := numbered(1, 200)
	late[199].Bytes = []byte(long)
	return [][]api.Item{
		{{Seq: 0}}, {{Seq: -1}}, {{Seq: math.MinInt}}, {{Seq: api.MaxCounter + 1}}, {{Seq: math.MaxInt}},
		{{Seq: 0}, {Seq: 1}}, {{Seq: -1}, {Seq: 0}, {Seq: 1}}, {{Seq: math.MaxInt}, {Seq: math.MinInt}}, {{Seq: math.MinInt}, {Seq: math.MinInt + 1}},
		{{Seq: api.MaxCounter}, {Seq: api.MaxCounter + 1}}, {{Seq: api.MaxCounter - 1}, {Seq: api.MaxCounter}, {Seq: api.MaxCounter + 1}},
		{{Seq: 1}, {Seq: 1}}, {{Seq: 1}, {Seq: 3}}, {{Seq: 2}, {Seq: 1}}, {{Seq: 1}, {Seq: 2}, {Seq: 2}}, {{Seq: 1}, {Seq: 2}, {Seq: 4}}, {{Seq: 5}, {Seq: 6}, {Seq: 1}}, {{Seq: 1}, {Seq: 0}}, {{Seq: 1}, {}}, {{}},
		items(1, long), items(1, "a", long), items(1, "a", "b", "c", "d", long), items(1, long, "a"), items(2, strings.Repeat("x", 70000)),
		many, late,
	}
}

// P12.3: of a list that is no queue's no frames; the sender stays as it was, but for its clock.
func TestTickOfWrongLists(t *testing.T) {
	all := items(1, "a", "b", "c")
	for _, wrong := range wrongLists() {
		newSender(t, 3, 3, 1).sends(wrong)
		s := newSender(t, 3, 3, 3)
		s.sends(wrong)
		s.sends(all[:2], frame(1, 1, "a", "b"))
		s.sends(wrong)
		s.sends(all, frame(1, 3, "c"))
		s.sends(wrong)
		s.sends(wrong)
		s.sends(all, frame(1, 1, "a", "b", "c"))
		s.rests(3, wrong)
		s.sends(all, frame(1, 1, "a", "b", "c"))
		s.sends(all[2:])
		s.sends(wrong)
		s.sends(all, frame(1, 1, "a", "b", "c"))
	}
}

// P12.3: numbers and items at their edges may be.
func TestTickOfEdges(t *testing.T) {
	item := strings.Repeat("x", 256)
	s := newSender(t, 64, 8, 1)
	s.sends(items(api.MaxCounter, item), frame(api.MaxCounter, api.MaxCounter, item))
	s.sends(items(api.MaxCounter-1, "", item), frame(api.MaxCounter-1, api.MaxCounter-1, "", item))
	s.sends(items(1, item, "", item), frame(1, 1, item, "", item))
	s.sends([]api.Item{{Seq: 1}, {Seq: 2, Bytes: []byte{}}}, frame(1, 1, "", ""))
}

// P12.3: every frame of a tick may be.
func TestTickFramesMayBe(t *testing.T) {
	for _, from := range []int{1, 1000, api.MaxCounter - 63} {
		for _, f := range newSender(t, 64, 8, 1).tick(numbered(from, 64)) {
			makes(t, "k", f)
		}
	}
}

// someQueue is a queue's list whose first number is near one that is given; now and then one that is none.
func someQueue(rnd *rand.Rand, near int) []api.Item {
	if rnd.Intn(12) == 0 {
		return wrongLists()[rnd.Intn(len(wrongLists()))]
	}
	if rnd.Intn(25) == 0 {
		return nil
	}
	return numbered(near, 1+rnd.Intn(12))
}

// P12.2, P12.3: any lists, over many ticks, against the slow sender.
func TestTicksAgainstTheSlowSender(t *testing.T) {
	rnd := rand.New(rand.NewSource(123))
	for range 400 {
		s := newSender(t, 1+rnd.Intn(10), 1+rnd.Intn(5), 1+rnd.Intn(7))
		near := 1 + rnd.Intn(9)
		for range 80 {
			s.tick(someQueue(rnd, near))
			switch rnd.Intn(6) {
			case 0:
				near += rnd.Intn(4)
			case 1:
				near = max(1, near-rnd.Intn(4))
			}
		}
	}
}

// P12.3: numbers that fall from tick to tick: what was sent behind the first item is known as long as it matters.
func TestTicksBackwards(t *testing.T) {
	s := newSender(t, 3, 2, 6)
	for from := 60; from > 0; from-- {
		s.tick(numbered(from, 3))
	}
	for from := 1; from < 60; from++ {
		s.tick(numbered(from, 3))
	}
}

// W2: two senders to which the same is done answer alike; a third one beside them changes nothing.
func TestSendersApart(t *testing.T) {
	rnd := rand.New(rand.NewSource(124))
	one, other, third := newSender(t, 5, 3, 4), newSender(t, 5, 3, 4), newSender(t, 5, 3, 4)
	for range 300 {
		l := someQueue(rnd, 1+rnd.Intn(5))
		a := one.tick(l)
		third.tick(numbered(1+rnd.Intn(9), 4))
		if b := other.tick(l); !sameFrames(a, b) {
			t.Fatalf("%s, not %s", short(b...), short(a...))
		}
	}
}
