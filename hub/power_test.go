package hub_test

import (
	"encoding/binary"
	"fmt"
	"maps"
	"math"
	"math/rand"
	"slices"
	"strings"
	"testing"

	"farebox/api"
	"farebox/block"
	"farebox/hub"
	"farebox/link"
)

// Here P15.8 and P15.9 stand alone, without the slow hub: what may be found follows from what was asked and answered.

// step is a call of a hub: so many items of a gate, the first of them so far behind its base; a frame of the office; or, of neither, an Open.
type step struct {
	gate, off, many int
	lost            bool // the answer does not reach the gate
	frame           api.Frame
}

// history is what was asked of a hub on a disk, and what was answered.
type history struct {
	hand    *block.Hand
	setup   api.Hub
	hub     *hub.Hub
	base    map[int]int    // by a gate: its first item that was not let go
	told    map[int]int    // by a gate: up to which number items were acknowledged
	next    map[int]int    // by a gate: the number that comes next, if that is known
	items   []string       // all that were taken, by their numbers in the queue
	from    int            // how many of them were there when it was opened
	acked   int            // up to which number they were let go
	version int            // of the list
	lists   map[int]string // by the version: its tokens

	// of the call under way:
	may    []string // items that may be taken, in their order
	mayGo  int      // up to which number items may be let go
	mayGet int      // the version of a delta
}

func begun(setup api.Hub) *history {
	h := &history{hand: block.New(hub.Sectors(setup.Limit)), setup: setup, base: map[int]int{}, told: map[int]int{}, lists: map[int]string{0: "listed:"}}
	for _, gate := range setup.Gates {
		h.base[gate] = 1
	}
	h.settle()
	return h
}

func listed(h *hub.Hub) string { return "listed:" + strings.Join(h.Risk().Tokens, "") }

// settle knows the call under way as over.
func (h *history) settle() { h.may, h.mayGo, h.mayGet = nil, h.acked, h.version }

// do carries a step out; false: the power went.
func (h *history) do(t *testing.T, s step) bool {
	t.Helper()
	var err error
	switch {
	case s.gate != 0:
		err = h.got(t, s)
	case s.frame.Kind != 0:
		err = h.gotDown(t, s)
	default:
		err = h.open()
	}
	switch e := api.Number(err); {
	case e == api.ErrDown && h.hand.Down():
		return false
	case h.hand.Down():
		t.Fatalf("%v: it went down: %v", s, err)
	}
	h.settle()
	h.holds(t, "with power", h.hub)
	return true
}

// open makes the receivers know nothing.
func (h *history) open() error {
	x, err := hub.Open(h.hand.Disk(), h.setup)
	if err == nil {
		h.hub, h.next, h.from = x, map[int]int{}, len(h.items)
	}
	return err
}

// got is a frame of a gate. What is acknowledged must have been taken, then or ahead of it.
func (h *history) got(t *testing.T, s step) error {
	t.Helper()
	secret, base := slowSecret(h.setup.Secret, s.gate), h.base[s.gate]
	f := items(base, base+s.off, sayings(s.gate, base+s.off, s.many)...)
	next := max(h.next[s.gate], base)
	if f.Seq <= next && next < f.Seq+s.many {
		h.may = sayings(s.gate, next, f.Seq+s.many-next)
	}
	l, err := h.hub.Got(s.gate, madeWith(t, secret, f))
	if err != nil {
		return err
	}
	ack, e := link.Parse(secret, l[0])
	if e != api.OK || len(l) != 1 || ack.Kind != api.FrameAck || ack.Seq < next-1 || ack.Seq > next-1+len(h.may) {
		t.Fatalf("%v: %v, %d; the next one is %d", s, ack, e, next)
	}
	h.items = append(h.items, h.may[:ack.Seq+1-next]...)
	h.next[s.gate] = ack.Seq + 1
	h.told[s.gate] = max(h.told[s.gate], ack.Seq)
	if !s.lost {
		h.base[s.gate] = max(base, ack.Seq+1)
	}
	return nil
}

func (h *history) gotDown(t *testing.T, s step) error {
	t.Helper()
	if s.frame.Kind == api.FrameAck {
		h.mayGo = max(h.acked, s.frame.Seq)
	} else {
		h.mayGet = h.version + 1
	}
	err := h.hub.GotDown(madeWith(t, slowSecret(h.setup.Secret, h.setup.Number), s.frame))
	if err == nil {
		h.acked = h.mayGo
		if s.frame.Kind == api.FrameDelta {
			h.version++
			h.lists[h.version] = listed(h.hub)
		}
	}
	return err
}

// holds holds what a hub tells against what may be found.
func (h *history) holds(t *testing.T, what string, x *hub.Hub) {
	t.Helper()
	first, waiting := h.acked, x.Waiting(math.MaxInt)
	if len(waiting) > 0 {
		first = waiting[0].Seq - 1
	} else if len(h.items) > h.acked {
		first = h.mayGo
	}
	all := append(slices.Clone(h.items), h.may...)
	if first != h.acked && first != h.mayGo || first+len(waiting) < len(h.items) || first+len(waiting) > len(all) {
		t.Fatalf("%s: %d wait behind %d; let go was %d, or %d, %d were taken, %d under way", what, len(waiting), first, h.acked, h.mayGo, len(h.items), len(h.may))
	}
	for i, item := range waiting {
		if item.Seq != first+1+i || string(item.Bytes) != all[first+i] {
			t.Fatalf("%s: the item %d is %q, not %q", what, item.Seq, item.Bytes, all[first+i])
		}
	}
	if l := x.Risk(); l.Version != h.version && l.Version != h.mayGet || h.lists[l.Version] != "" && h.lists[l.Version] != listed(x) {
		t.Fatalf("%s: %s; the version was %d", what, short(l), h.version)
	}
	h.keepsWhatItTold(t, what)
}

// keepsWhatItTold: what was acknowledged was taken (and what was taken waits, or was let go); of one gate it stands in its order, as long as the hub is not opened anew.
func (h *history) keepsWhatItTold(t *testing.T, what string) {
	t.Helper()
	for gate, told := range h.told {
		for n := 1; n <= told; n++ {
			if !slices.Contains(h.items, fmt.Sprint(gate, "/", n)) {
				t.Fatalf("%s: the item %d of the gate %d was acknowledged, and is lost", what, n, gate)
			}
		}
	}
	last := map[int]int{}
	for _, x := range h.items[h.from:] {
		var gate, n int
		fmt.Sscanf(x, "%d/%d", &gate, &n)
		if last[gate] > 0 && n != last[gate]+1 {
			t.Fatalf("%s: of the gate %d the item %d stands behind %d", what, gate, n, last[gate])
		}
		last[gate] = n
	}
}

// found goes on with what a hub tells behind a loss of power. The answer is whether something of the call that was under way is found.
func (h *history) found(t *testing.T, what string) bool {
	t.Helper()
	items, may, acked, mayGo, version := h.items, h.may, h.acked, h.mayGo, h.version
	if err := h.open(); err != nil {
		t.Fatalf("%s: %v", what, err)
	}
	h.holds(t, what, h.hub)
	waiting := h.hub.Waiting(math.MaxInt)
	switch {
	case len(waiting) > 0:
		h.acked = waiting[0].Seq - 1
	case len(items) > acked:
		h.acked = mayGo
	}
	if n := h.acked + len(waiting) - len(items); n > 0 {
		h.items = append(items, may[:n]...)
	}
	h.version = h.hub.Risk().Version
	h.lists[h.version] = listed(h.hub)
	kept := len(h.items) > len(items) || h.acked > acked || h.version > version
	h.from = len(h.items)
	h.settle()
	h.leadsAll(t, what)
	return kept
}

// leadsAll holds that a gate without a list gets, delta by delta, each version that there was, and the hub's list at last.
func (h *history) leadsAll(t *testing.T, what string) {
	t.Helper()
	p := &both{t: t, hub: h.hub, slow: newSlow(h.setup)}
	tokens := map[string]int{}
	for version := range h.version {
		p.follows(h.setup.Gates[0], version, tokens)
		var l []string
		for token := range tokens {
			l = append(l, token)
		}
		slices.Sort(l)
		if got := "listed:" + strings.Join(l, ""); got != h.lists[version+1] {
			t.Fatalf("%s: the version %d has %q", what, version+1, got)
		}
	}
}

// clone is another history that begins alike, on a disk of its own, which is opened.
func (h *history) clone(t *testing.T) *history {
	t.Helper()
	c := *h
	c.hand = copied(h.hand)
	c.base, c.told, c.lists = maps.Clone(h.base), maps.Clone(h.told), maps.Clone(h.lists)
	c.items = slices.Clone(h.items)
	c.do(t, step{})
	return &c
}

// goesAt plays steps behind a history, with the power going at an act; nil: there are not so many.
func goesAt(t *testing.T, behind *history, steps []step, acts int, done bool) *history {
	t.Helper()
	h := behind.clone(t)
	h.hand.Arm(acts, done)
	for _, s := range steps {
		if !h.do(t, s) {
			return h
		}
	}
	return nil
}

// keeps are ways in which so many writes may stay: all that there are, if they are few; else none, all, and some, of the first ones, the last ones, one alone, all but one.
func keeps(many int) [][]bool {
	var l [][]bool
	if many <= 4 {
		for n := range 1 << many {
			keep := make([]bool, many)
			for i := range keep {
				keep[i] = n>>i&1 == 1
			}
			l = append(l, keep)
		}
		return l
	}
	for at := 0; at < many; at += 1 + many/4 {
		for _, says := range []func(int) bool{
			func(i int) bool { return i < at },
			func(i int) bool { return i >= at },
			func(i int) bool { return i == at },
			func(i int) bool { return i != at },
		} {
			keep := make([]bool, many)
			for i := range keep {
				keep[i] = says(i)
			}
			l = append(l, keep)
		}
	}
	return l
}

// everywhere lets the power go at each act of some steps behind a history (or at one of so many, and at the last ones), with each choice of writes that stay; then there are some more steps. The answer is how often the power went, and how often something that was under way was found.
func everywhere(t *testing.T, behind *history, steps []step, of int) (losses, kept int) {
	t.Helper()
	for acts := 0; ; acts += of {
		for _, done := range []bool{false, true} {
			h := goesAt(t, behind, steps, acts, done)
			if h == nil && of == 1 {
				return losses, kept
			}
			if h == nil {
				acts, of = acts-of, 1
				break
			}
			for _, keep := range keeps(h.hand.Waiting()) {
				h := goesAt(t, behind, steps, acts, done)
				h.hand.Crash(keep)
				if h.found(t, fmt.Sprintf("act %d, %v, kept %v", acts, done, keep)) {
					kept++
				}
				losses++
				for _, gate := range h.setup.Gates {
					h.do(t, step{gate: gate, many: 2})
				}
				h.hand.Crash(nil)
				h.found(t, "later")
			}
		}
	}
}

// someStep of a hub that took some: items that come next, or nearly so, a frame that lets some go, a delta, an Open.
func someStep(rnd *rand.Rand, setup api.Hub, taken, version int, tokens []string) step {
	switch rnd.Intn(8) {
	case 0, 1:
		return step{frame: ack(max(0, taken-rnd.Intn(4)))}
	case 2:
		return step{frame: deltaOf(someDelta(rnd, api.RiskList{Version: version, Tokens: tokens}))}
	case 3:
		if rnd.Intn(4) == 0 {
			return step{}
		}
	}
	return step{gate: setup.Gates[rnd.Intn(len(setup.Gates))], off: rnd.Intn(3) / 2, many: 1 + rnd.Intn(5), lost: rnd.Intn(3) == 0}
}

// some is a step that suits what there is.
func (h *history) some(rnd *rand.Rand) step {
	l := h.hub.Risk()
	return someStep(rnd, h.setup, len(h.items), l.Version, l.Tokens)
}

// script is a number of steps that suit what there is then; with power.
func script(t *testing.T, rnd *rand.Rand, setup api.Hub, many int) []step {
	t.Helper()
	h := begun(setup)
	h.do(t, step{})
	var steps []step
	for range many {
		s := h.some(rnd)
		h.do(t, s)
		steps = append(steps, s)
	}
	return append(steps, step{})
}

// P15.8, P15.9: the power goes at each act of scripts, whichever writes stay.
func TestPowerEverywhere(t *testing.T) {
	t.Parallel()
	rnd := rand.New(rand.NewSource(157))
	for i := range 5 {
		setup := limited(3 + 2*i)
		if losses, kept := everywhere(t, begun(setup), script(t, rnd, setup, 16), 1); losses < 80 || kept < 10 {
			t.Errorf("%d losses of power, %d calls kept", losses, kept)
		}
	}
}

// played is a history of these steps, with power.
func played(t *testing.T, setup api.Hub, steps ...step) *history {
	t.Helper()
	h := begun(setup)
	for _, s := range steps {
		if !h.do(t, s) {
			t.Fatal("the power went")
		}
	}
	return h
}

// P15.8: likewise where the queue's log is written anew, as items come and as they go.
func TestPowerInFullLogs(t *testing.T) {
	t.Parallel()
	var steps []step
	for n := range 45 {
		steps = append(steps, step{gate: 7 + n%2, many: 2}, step{frame: ack(2*n + 2)})
	}
	behind := played(t, limited(2), append([]step{{}}, steps[:30]...)...)
	if losses, kept := everywhere(t, behind, steps[30:], 1); losses < 200 || kept < 40 {
		t.Errorf("%d losses of power, %d calls kept", losses, kept)
	}
	before := epoch(behind.hand)
	for _, s := range steps[30:] {
		behind.do(t, s)
	}
	if epoch(behind.hand) == before {
		t.Error("no log was written anew")
	}
}

// epoch is the greater number of the two heads of a log at a disk's beginning: it rises whenever the log is written anew.
func epoch(h *block.Hand) uint64 {
	return max(binary.BigEndian.Uint64(h.Sector(0)[4:]), binary.BigEndian.Uint64(h.Sector(1)[4:]))
}

// P15.9: likewise where lists are great, and where the store's log is written anew: versions never fall, and are whole, with all their deltas.
func TestPowerInGreatLists(t *testing.T) {
	t.Parallel()
	steps := []step{{}, {gate: 7, many: 1}, {frame: deltaOf(api.Delta{Version: 1, Add: many(0, 1000)})}}
	for n := range 12 {
		if n == 1 || n == 10 {
			next := step{frame: deltaOf(api.Delta{Version: n + 2, Add: many(5000, 300), Gone: many(0, 300)})}
			if losses, kept := everywhere(t, played(t, plain(), steps...), []step{next}, 7); losses < 60 || kept < 1 {
				t.Errorf("%d losses of power, %d calls kept", losses, kept)
			}
		}
		steps = append(steps, step{frame: delta(n+2, "", "")})
	}
}

// P15.8: what is let go does not come back, though the power goes just behind.
func TestLetGoIsSafe(t *testing.T) {
	p := opened(t, limited(3)).fill(3)
	for n := 1; n <= 3; n++ {
		p.down(ack(n), api.OK)
		if p.hand.Waiting() != 0 {
			t.Errorf("%d writes wait", p.hand.Waiting())
		}
		p.loses()
		p.waits(n+1, words(n+1, 3-n)...)
	}
}

// P15.8: items under way are there, or they are not, the first of them first; none of them was acknowledged.
func TestPowerInOneFrame(t *testing.T) {
	found := map[int]int{}
	for acts := range 4 {
		for _, done := range []bool{false, true} {
			for _, keep := range keeps(3) {
				p := opened(t, limited(9)).fill(1)
				p.hand.Arm(acts, done)
				p.refuses(8, items(1, 1, "a", "b", "c"), api.ErrDown)
				p.hand.Crash(keep)
				h, err := hub.Open(p.hand.Disk(), limited(9))
				if err != nil {
					t.Fatal(err)
				}
				found[h.Len()-1]++
				for i, x := range h.Waiting(9) {
					if string(x.Bytes) != []string{"item 1", "a", "b", "c"}[i] {
						t.Fatalf("%q", x.Bytes)
					}
				}
			}
		}
	}
	for n := range 4 {
		if found[n] == 0 {
			t.Errorf("%v", found)
		}
	}
}

// P15.8, P15.9: a hub's long life: any calls, the power going at any act, again and again, in Open too, any writes staying.
func TestPowerAgainAndAgain(t *testing.T) {
	t.Parallel()
	rnd := rand.New(rand.NewSource(158))
	kept, lost := 0, 0
	for range 25 {
		h := begun(api.Hub{Number: 20, Secret: "k", Limit: 1 + rnd.Intn(8), Gates: []int{7, 8, 9}[:1+rnd.Intn(3)]})
		h.do(t, step{})
		for range 40 {
			h.hand.Arm(rnd.Intn(25), rnd.Intn(2) == 0)
			for h.do(t, h.some(rnd)) {
			}
			for rnd.Intn(2) == 0 {
				h.hand.Crash(someKeep(rnd, h.hand.Waiting()))
				h.hand.Arm(rnd.Intn(12), rnd.Intn(2) == 0)
				if _, err := hub.Open(h.hand.Disk(), h.setup); api.Number(err) == api.ErrHub {
					t.Fatal("it is no hub's any more")
				}
			}
			h.hand.Crash(someKeep(rnd, h.hand.Waiting()))
			if h.found(t, "again") {
				kept++
			} else {
				lost++
			}
		}
	}
	if kept < 100 || lost < 200 {
		t.Errorf("%d calls kept, %d lost", kept, lost)
	}
}

func someKeep(rnd *rand.Rand, many int) []bool {
	keep := make([]bool, many)
	for i := range keep {
		keep[i] = rnd.Intn(2) == 0
	}
	return keep
}
