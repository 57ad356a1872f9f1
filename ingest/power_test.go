package ingest_test

import (
	"bytes"
	"fmt"
	"maps"
	"math/rand"
	"slices"
	"strings"
	"testing"

	"farebox/api"
	"farebox/block"
	"farebox/ingest"
	"farebox/link"
)

// Here P16.6 and P16.7 stand alone, without the slow office: what may be found follows from what was asked and answered.

// own is the tap that a device, which has the number of its hub, makes as its n-th.
func own(hub, n int) api.Tap {
	return api.Tap{Device: hub, Counter: n, Token: numbered((hub + n) % 4), Kind: 1 + n%3, Place: 1 + n%9, Time: n * 37 % 100}
}

// itemOf is the item that a hub sends as its n-th, and whether it is a tap under its device's seal: most are the hub's own ones; others came over another hub, are doubled, have a counter that was there, another seal, or are none.
func itemOf(hubs []int, hub, n int) ([]byte, bool) {
	switch (hub*3 + n*7) % 13 {
	case 0:
		x := sealed(own(hub, n))
		x[n%len(x)] ^= 1
		return x, false
	case 1:
		other := hubs[(slices.Index(hubs, hub)+1)%len(hubs)]
		return sealed(own(other, n)), true
	case 2:
		x := own(hub, max(1, n-1))
		x.Time += 1000
		return sealed(x), true
	case 3:
		return fmt.Append(nil, "hub ", hub, ", item ", n), false
	case 4:
		return sealed(own(hub, max(1, n-2))), true
	case 5:
		return slowSeal(slowKey("k", hub+1), slowTap(own(hub, n))), false
	}
	return sealed(own(hub, n)), true
}

// step is a call of an office: so many items of a hub, the first of them so far behind its base; or a frame that was sent so many ago; or a batch of a later layer, of so many bytes; or, of none of them, an Open.
type step struct {
	hub, off, many int
	lost           bool // the answer does not reach the hub
	late           int
	spoilt         bool // a byte of the frame is another one
	lays           int
}

type sent struct {
	hub   int
	frame api.Frame
}

// history is what was asked of an office on a disk, and what was answered.
type history struct {
	hand   *block.Hand
	setup  api.Office
	office *ingest.Office
	base   map[int]int    // by a hub: its first item that was not let go
	told   map[int]int    // by a hub: up to which number items were acknowledged
	next   map[int]int    // by a hub: the number that comes next, if that is known
	sent   []sent         // all frames
	right  map[string]int // the bytes of the taps that were sent under their seals
	taps   []api.Tap      // as they were behind the last call
	bad    [][]byte
	laid   string // by the last batch of a later layer

	// of the call under way:
	may    [][]byte // items that come next
	mayLay string
}

func begun(setup api.Office, sectors int) *history {
	h := &history{hand: block.New(sectors), setup: setup, base: map[int]int{}, told: map[int]int{}, right: map[string]int{}}
	for _, hub := range setup.Hubs {
		h.base[hub] = 1
	}
	return h
}

// do carries a step out; false: the power went.
func (h *history) do(t *testing.T, s step) bool {
	t.Helper()
	h.may, h.mayLay = nil, h.laid
	var err error
	switch {
	case s.late > 0:
		if s.late <= len(h.sent) {
			err = h.got(t, h.sent[len(h.sent)-s.late], s)
		}
	case s.hub > 0:
		x := sent{s.hub, frame(h.base[s.hub], h.base[s.hub]+s.off)}
		for i := range s.many {
			item, _ := itemOf(h.setup.Hubs, s.hub, x.frame.Seq+i)
			x.frame.Items = append(x.frame.Items, item)
		}
		h.sent = append(h.sent, x)
		err = h.got(t, x, s)
	case s.lays > 0:
		err = h.lay(s.lays)
	default:
		err = h.open()
	}
	switch e := api.Number(err); {
	case e == api.ErrDown && h.hand.Down():
		return false
	case h.hand.Down():
		t.Fatalf("%v: it went down: %v", s, err)
	case err != nil:
		h.may, h.mayLay = nil, h.laid
	}
	h.holds(t, "with power")
	return true
}

// open makes the receivers know nothing.
func (h *history) open() error {
	o, err := ingest.Open(h.hand.Disk(), h.setup)
	if err == nil {
		h.office, h.next = o, map[int]int{}
	}
	return err
}

func (h *history) lay(size int) error {
	d := h.office.Begin()
	h.mayLay = strings.Repeat(string(rune('a'+len(h.sent)%26)), size)
	d.Put("s", h.mayLay)
	err := h.office.Commit(d)
	if err == nil {
		h.laid = h.mayLay
	}
	return err
}

// got is a frame of a hub, which is refused if it is spoilt. What is acknowledged are all items that come next.
func (h *history) got(t *testing.T, x sent, s step) error {
	t.Helper()
	secret := slowSecret(h.setup.Secret, x.hub)
	b := madeWith(t, secret, x.frame)
	if s.spoilt {
		b[len(h.sent)%len(b)] ^= 64
		if l, err := h.office.Got(x.hub, b); len(l) != 0 || api.Number(err) != api.ErrLinkSeal {
			t.Fatalf("a spoilt frame: %d answers, %v", len(l), err)
		}
		return nil
	}
	next := max(h.next[x.hub], x.frame.Base)
	for i, item := range x.frame.Items {
		tap, is := itemOf(h.setup.Hubs, x.hub, x.frame.Seq+i)
		if is {
			h.right[string(tap[:21])]++
		}
		if x.frame.Seq <= next && x.frame.Seq+i >= next {
			h.may = append(h.may, item)
		}
	}
	l, err := h.office.Got(x.hub, b)
	if e := api.Number(err); e == api.ErrFull || e == api.ErrBig {
		h.next[x.hub] = next
		return err
	}
	if err != nil {
		return err
	}
	ack, e := link.Parse(secret, l[0])
	if e != api.OK || len(l) != 1 || ack.Kind != api.FrameAck || ack.Seq != next-1+len(h.may) {
		t.Fatalf("%v: %v, %d; the next one is %d", s, ack, e, next)
	}
	h.next[x.hub] = ack.Seq + 1
	h.told[x.hub] = max(h.told[x.hub], ack.Seq)
	if !s.lost {
		h.base[x.hub] = max(h.base[x.hub], ack.Seq+1)
	}
	return nil
}

// holds holds what the office tells against what may be found, and goes on from that. The answer is whether something of the call under way is found.
func (h *history) holds(t *testing.T, what string) bool {
	t.Helper()
	taps, bad := h.office.Taps(), h.office.Bad()
	h.isOnce(t, what, taps)
	there := map[string]int{}
	for _, x := range taps {
		there[string(sealed(x))]++
	}
	for _, x := range bad {
		there[string(x)]++
	}
	h.stays(t, what, taps, bad, there)
	for hub, told := range h.told {
		for n := 1; n <= told; n++ {
			if x, _ := itemOf(h.setup.Hubs, hub, n); there[string(x)] == 0 {
				t.Fatalf("%s: the item %d of the hub %d was acknowledged, and is lost", what, n, hub)
			}
		}
	}
	value, _ := h.office.Begin().Get("s")
	if value != h.laid && value != h.mayLay {
		t.Fatalf("%s: %q, not %q, or %q", what, value, h.laid, h.mayLay)
	}
	kept := len(taps) > len(h.taps) || len(bad) > len(h.bad) || value != h.laid
	if kept {
		for i, x := range h.may {
			if there[string(x)] == 0 {
				t.Fatalf("%s: a part of a frame: the item %d is not there", what, i)
			}
		}
	}
	h.taps, h.bad, h.laid = taps, bad, value
	return kept
}

// isOnce: each tap is one that was sealed, is there once, and of one device no two have one counter.
func (h *history) isOnce(t *testing.T, what string, taps []api.Tap) {
	t.Helper()
	counters := map[[2]int]int{}
	for i, x := range taps {
		if h.right[string(slowTap(x))] == 0 {
			t.Fatalf("%s: nobody sealed %v", what, x)
		}
		if counters[[2]int{x.Device, x.Counter}]++; counters[[2]int{x.Device, x.Counter}] > 1 {
			t.Fatalf("%s: the counter of %v is there twice", what, x)
		}
		if i > 0 && slowTapKey(taps[i-1]) >= slowTapKey(x) {
			t.Fatalf("%s: %v stands behind %v", what, x, taps[i-1])
		}
	}
}

// stays: what was there ahead of the call is there, and nothing else but what it hands in.
func (h *history) stays(t *testing.T, what string, taps []api.Tap, bad [][]byte, there map[string]int) {
	t.Helper()
	for _, x := range h.taps {
		if there[string(sealed(x))] == 0 {
			t.Fatalf("%s: %v is lost", what, x)
		}
	}
	if len(bad) < len(h.bad) || !slices.EqualFunc(bad[:len(h.bad)], h.bad, bytes.Equal) {
		t.Fatalf("%s: %q was put aside, %q is", what, h.bad, bad)
	}
	if n := len(taps) - len(h.taps) + len(bad) - len(h.bad); n > len(h.may) {
		t.Fatalf("%s: %d more than there were, of %d", what, n, len(h.may))
	}
	for _, x := range bad[len(h.bad):] {
		if !slices.ContainsFunc(h.may, func(may []byte) bool { return bytes.Equal(may, x) }) {
			t.Fatalf("%s: %q was put aside", what, x)
		}
	}
	for _, x := range taps {
		if !slices.Contains(h.taps, x) && !slices.ContainsFunc(h.may, func(may []byte) bool { return bytes.Equal(may, sealed(x)) }) {
			t.Fatalf("%s: %v was taken in", what, x)
		}
	}
}

// found goes on with what an office tells behind a loss of power. The answer is whether something of the call that was under way is found.
func (h *history) found(t *testing.T, what string) bool {
	t.Helper()
	if err := h.open(); err != nil {
		t.Fatalf("%s: %v", what, err)
	}
	return h.holds(t, what)
}

// clone is another history that begins alike, on a disk of its own, which is opened.
func (h *history) clone(t *testing.T) *history {
	t.Helper()
	c := *h
	c.hand = copied(h.hand)
	c.base, c.told, c.right = maps.Clone(h.base), maps.Clone(h.told), maps.Clone(h.right)
	c.sent = slices.Clone(h.sent)
	c.do(t, step{})
	return &c
}

// goesAt plays steps behind a history, with the power going at an act; nil: there are not so many.
func goesAt(t *testing.T, behind *history, steps []step, acts int, done bool) *history {
	t.Helper()
	h := behind.clone(t)
	h.hand.Arm(acts, done)
	for _, s := range steps {
		if !h.do(t, s) {
			return h
		}
	}
	return nil
}

// keeps are ways in which so many writes may stay: all that there are, if they are few; else none, all, and some, of the first ones, the last ones, one alone, all but one.
func keeps(many int) [][]bool {
	var l [][]bool
	if many <= 4 {
		for n := range 1 << many {
			keep := make([]bool, many)
			for i := range keep {
				keep[i] = n>>i&1 == 1
			}
			l = append(l, keep)
		}
		return l
	}
	for at := 0; at < many; at += 1 + many/4 {
		for _, says := range []func(int) bool{
			func(i int) bool { return i < at },
			func(i int) bool { return i >= at },
			func(i int) bool { return i == at },
			func(i int) bool { return i != at },
		} {
			keep := make([]bool, many)
			for i := range keep {
				keep[i] = says(i)
			}
			l = append(l, keep)
		}
	}
	return l
}

// everywhere lets the power go at each act of some steps behind a history, with each choice of writes that stay; then there are some more steps. The answer is how often the power went, and how often something that was under way was found.
func everywhere(t *testing.T, behind *history, steps []step) (losses, kept int) {
	t.Helper()
	for acts := 0; ; acts++ {
		for _, done := range []bool{false, true} {
			h := goesAt(t, behind, steps, acts, done)
			if h == nil {
				return losses, kept
			}
			for _, keep := range keeps(h.hand.Waiting()) {
				h := goesAt(t, behind, steps, acts, done)
				h.hand.Crash(keep)
				if h.found(t, fmt.Sprintf("act %d, %v, kept %v", acts, done, keep)) {
					kept++
				}
				losses++
				h.do(t, step{late: 1})
				for _, hub := range h.setup.Hubs {
					h.do(t, step{hub: hub, many: 3})
				}
				h.hand.Crash(nil)
				h.found(t, "later")
			}
		}
	}
}

// someStep is any one: most are items that come next, or nearly so.
func someStep(rnd *rand.Rand, setup api.Office) step {
	s := step{hub: setup.Hubs[rnd.Intn(len(setup.Hubs))], off: rnd.Intn(3) / 2, many: 1 + rnd.Intn(5), lost: rnd.Intn(3) == 0, spoilt: rnd.Intn(8) == 0}
	switch rnd.Intn(12) {
	case 0:
		return step{}
	case 1, 2:
		return step{lays: 1 + rnd.Intn(300)}
	case 3, 4, 5:
		s.late = 1 + rnd.Intn(9)
	}
	return s
}

// hubsOf is a set-up with so many hubs.
func hubsOf(n int) api.Office { return api.Office{Secret: "k", Hubs: []int{20, 30, 40, 50}[:n]} }

// P16.6, P16.7: the power goes at each act of scripts, whichever writes stay.
func TestPowerEverywhere(t *testing.T) {
	t.Parallel()
	rnd := rand.New(rand.NewSource(167))
	for i := range 6 {
		setup := hubsOf(1 + i%4)
		var steps []step
		for range 24 {
			steps = append(steps, someStep(rnd, setup))
		}
		if losses, kept := everywhere(t, begun(setup, 30+4*i), append([]step{{}}, steps...)); losses < 80 || kept < 10 {
			t.Errorf("%d losses of power, %d calls kept", losses, kept)
		}
	}
}

// P16.7: likewise where the log is written anew, and where there is no room any more.
func TestPowerInFullLogs(t *testing.T) {
	t.Parallel()
	h := begun(hubsOf(2), 12)
	h.do(t, step{})
	var steps []step
	for n := range 14 {
		steps = append(steps, step{hub: 20 + 10*(n%2), many: 2, lost: n%3 == 0}, step{lays: 100 + n})
	}
	before := epoch(h.hand)
	if losses, kept := everywhere(t, h, steps); losses < 150 || kept < 40 {
		t.Errorf("%d losses of power, %d calls kept", losses, kept)
	}
	for _, s := range steps {
		h.do(t, s)
	}
	if epoch(h.hand) == before || len(h.bad)+len(h.taps) >= 28 {
		t.Errorf("written anew %d times, %d taps, %d bad", epoch(h.hand)-before, len(h.taps), len(h.bad))
	}
}

// P16.7: the taps of a frame under way are all there, or none of them is; whatever sectors they take.
func TestPowerInOneFrame(t *testing.T) {
	found := map[int]int{}
	for _, before := range []int{0, 1, 4} {
		behind := begun(hubsOf(1), 20)
		behind.do(t, step{})
		for range before {
			behind.do(t, step{lays: 150})
		}
		for acts := range 9 {
			for _, done := range []bool{false, true} {
				h := goesAt(t, behind, []step{{hub: 20, many: 8}}, acts, done)
				if h == nil {
					continue
				}
				for _, keep := range keeps(h.hand.Waiting()) {
					h := goesAt(t, behind, []step{{hub: 20, many: 8}}, acts, done)
					h.hand.Crash(keep)
					h.found(t, "one frame")
					found[len(h.taps)]++
				}
			}
		}
	}
	if len(found) != 2 || found[0] == 0 {
		t.Errorf("how many taps were found, how often: %v", found)
	}
}

// P16.6, P16.7: an office's long life: any calls, the power going at any act, again and again, in Open too, any writes staying.
func TestPowerAgainAndAgain(t *testing.T) {
	t.Parallel()
	rnd := rand.New(rand.NewSource(168))
	kept, lost := 0, 0
	for i := range 16 {
		h := begun(hubsOf(1+i%4), 20+rnd.Intn(100))
		h.do(t, step{})
		for range 30 {
			h.hand.Arm(rnd.Intn(25), rnd.Intn(2) == 0)
			for h.do(t, someStep(rnd, h.setup)) {
			}
			for rnd.Intn(2) == 0 {
				h.hand.Crash(someKeep(rnd, h.hand.Waiting()))
				h.hand.Arm(rnd.Intn(12), rnd.Intn(2) == 0)
				if _, err := ingest.Open(h.hand.Disk(), h.setup); api.Number(err) == api.ErrIngest {
					t.Fatal("it is no office's any more")
				}
			}
			h.hand.Crash(someKeep(rnd, h.hand.Waiting()))
			if h.found(t, "again") {
				kept++
			} else {
				lost++
			}
		}
	}
	if kept < 50 || lost < 150 {
		t.Errorf("%d calls kept, %d lost", kept, lost)
	}
}

func someKeep(rnd *rand.Rand, many int) []bool {
	keep := make([]bool, many)
	for i := range keep {
		keep[i] = rnd.Intn(2) == 0
	}
	return keep
}

// P16.6: many scripts with power: frames doubled, late, mixed up, spoilt, over several hubs.
func TestOnce(t *testing.T) {
	t.Parallel()
	rnd := rand.New(rand.NewSource(169))
	taps, bad := 0, 0
	for i := range 40 {
		h := begun(hubsOf(1+i%4), 400)
		h.do(t, step{})
		for range 60 {
			h.do(t, someStep(rnd, h.setup))
		}
		taps, bad = taps+len(h.taps), bad+len(h.bad)
	}
	if taps < 700 || bad < 300 {
		t.Errorf("%d taps, %d put aside", taps, bad)
	}
}
