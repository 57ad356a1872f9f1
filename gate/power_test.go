package gate_test

import (
	"bytes"
	"fmt"
	"math/rand"
	"slices"
	"strings"
	"testing"

	"farebox/api"
	"farebox/block"
	"farebox/gate"
)

// Here P14.8 and P14.9 stand alone, without the slow gate: what may be found follows from what was asked and answered.

// step is a call of a gate: a presentation, a frame, or, of neither, an Open.
type step struct {
	token string
	time  int
	frame api.Frame
}

// history is what was asked of a gate on a disk, and what was answered.
type history struct {
	hand     *block.Hand
	setup    api.Gate
	gate     *gate.Gate
	accepted map[int][]byte // by the counter: the item that waited then
	acked    int            // up to which counter they were let go
	version  int
	lists    map[int]string // by the version: its tokens

	// of the call under way:
	may    []byte // the item of a presentation
	mayGo  int    // up to which counter items may be let go
	mayGet int    // the version of a delta
}

func begun(setup api.Gate) *history {
	h := &history{hand: block.New(gate.Sectors(setup.Limit)), setup: setup, accepted: map[int][]byte{}, lists: map[int]string{0: "listed:"}}
	h.settle()
	return h
}

func listed(g *gate.Gate) string { return "listed:" + strings.Join(g.Risk().Tokens, "") }

// settle knows the call under way as over.
func (h *history) settle() { h.may, h.mayGo, h.mayGet = nil, h.acked, h.version }

// do carries a step out; false: the power went.
func (h *history) do(t *testing.T, s step) bool {
	t.Helper()
	var err error
	switch {
	case s.token != "":
		err = h.present(t, s)
	case s.frame.Kind != 0:
		err = h.got(t, s)
	default:
		var g *gate.Gate
		if g, err = gate.Open(h.hand.Disk(), h.setup); err == nil {
			h.gate = g
		}
	}
	switch e := api.Number(err); {
	case e == api.ErrDown && h.hand.Down():
		return false
	case h.hand.Down():
		t.Fatalf("%v: it went down: %v", s, err)
	}
	h.settle()
	h.holds(t, "with power", h.gate)
	return true
}

func (h *history) present(t *testing.T, s step) error {
	t.Helper()
	next := h.gate.Counter() + 1
	h.may = slowSealed(h.setup.Secret, api.Tap{Device: h.setup.Device, Counter: next, Token: s.token, Kind: api.TapEntry, Place: 3, Time: s.time})
	v, n, err := h.gate.Present(s.token, api.TapEntry, 3, s.time)
	if v == api.VerdictAccepted {
		if h.accepted[n] != nil || n != next {
			t.Fatalf("the counter %d was accepted behind %d", n, next-1)
		}
		h.accepted[n] = h.may
	}
	return err
}

func (h *history) got(t *testing.T, s step) error {
	t.Helper()
	if s.frame.Kind == api.FrameAck {
		h.mayGo = max(h.acked, s.frame.Seq)
	} else {
		h.mayGet = h.version + 1
	}
	err := h.gate.Got(madeWith(t, slowSecret(h.setup.Secret, h.setup.Device), s.frame))
	if err == nil {
		h.acked = h.mayGo
		if s.frame.Kind == api.FrameDelta {
			h.version++
			h.lists[h.version] = listed(h.gate)
		}
	}
	return err
}

// holds holds what a gate tells against what may be found.
func (h *history) holds(t *testing.T, what string, g *gate.Gate) {
	t.Helper()
	waiting := g.Waiting(99)
	first := g.Counter() - len(waiting)
	if first != h.acked && first != h.mayGo {
		t.Fatalf("%s: what waits begins behind %d; let go was %d, or %d", what, first, h.acked, h.mayGo)
	}
	for i, x := range waiting {
		want, is := h.accepted[x.Seq]
		if !is && h.may != nil && i == len(waiting)-1 {
			want = h.may
		}
		if x.Seq != first+1+i || want == nil || !bytes.Equal(x.Bytes, want) {
			t.Fatalf("%s: the item %d is %x, not %x", what, x.Seq, x.Bytes, want)
		}
	}
	if last := len(h.accepted); g.Counter() != last && (h.may == nil || g.Counter() != last+1) {
		t.Fatalf("%s: Counter %d; %d were accepted", what, g.Counter(), last)
	}
	if l := g.Risk(); l.Version != h.version && l.Version != h.mayGet || h.lists[l.Version] != "" && h.lists[l.Version] != listed(g) {
		t.Fatalf("%s: %s; the version was %d", what, short(l), h.version)
	}
}

// found goes on with what a gate tells behind a loss of power. The answer is whether that is the call that was under way.
func (h *history) found(t *testing.T, what string) bool {
	t.Helper()
	g, err := gate.Open(h.hand.Disk(), h.setup)
	if err != nil {
		t.Fatalf("%s: %v", what, err)
	}
	h.holds(t, what, g)
	kept := g.Counter() > len(h.accepted) || g.Counter()-g.Len() > h.acked || g.Risk().Version > h.version
	if g.Counter() > len(h.accepted) {
		h.accepted[g.Counter()] = h.may
	}
	h.acked, h.version = g.Counter()-g.Len(), g.Risk().Version
	h.lists[h.version] = listed(g)
	h.gate = g
	h.settle()
	return kept
}

// goesAt plays steps on a new disk, with the power going at an act; nil: there are not so many.
func goesAt(t *testing.T, setup api.Gate, steps []step, acts int, done bool) *history {
	t.Helper()
	h := begun(setup)
	h.hand.Arm(acts, done)
	for _, s := range steps {
		if !h.do(t, s) {
			return h
		}
	}
	return nil
}

// keeps are ways in which so many writes may stay: all that there are, if they are few; else none, all, and some, of the first ones, the last ones, one alone, all but one.
func keeps(many int) [][]bool {
	var l [][]bool
	if many <= 4 {
		for n := range 1 << many {
			keep := make([]bool, many)
			for i := range keep {
				keep[i] = n>>i&1 == 1
			}
			l = append(l, keep)
		}
		return l
	}
	for at := 0; at < many; at += 1 + many/4 {
		for _, says := range []func(int) bool{
			func(i int) bool { return i < at },
			func(i int) bool { return i >= at },
			func(i int) bool { return i == at },
			func(i int) bool { return i != at },
		} {
			keep := make([]bool, many)
			for i := range keep {
				keep[i] = says(i)
			}
			l = append(l, keep)
		}
	}
	return l
}

// everywhere lets the power go at each act of some steps, from one on, with each choice of writes that stay; then there are some more steps. The answer is how often the power went, and how often what was under way was found.
func everywhere(t *testing.T, setup api.Gate, steps []step, from int) (losses, kept int) {
	t.Helper()
	for acts := from; ; acts++ {
		for _, done := range []bool{false, true} {
			h := goesAt(t, setup, steps, acts, done)
			if h == nil {
				return losses, kept
			}
			for _, keep := range keeps(h.hand.Waiting()) {
				h := goesAt(t, setup, steps, acts, done)
				h.hand.Crash(keep)
				if h.found(t, fmt.Sprintf("act %d, %v, kept %v", acts, done, keep)) {
					kept++
				}
				losses++
				for n := range 3 {
					h.do(t, step{token: fmt.Sprintf("later%03d", n), time: 5})
				}
				h.hand.Crash(nil)
				h.found(t, "later")
			}
		}
	}
}

// someStep of a gate that took some: a presentation of few tokens at times that go on, a frame that lets some go, a delta, an Open.
func someStep(rnd *rand.Rand, n int) step {
	switch rnd.Intn(8) {
	case 0, 1:
		return step{frame: ack(rnd.Intn(n + 1))}
	case 2:
		add := tokens("abc")[rnd.Intn(3)][:1]
		return step{frame: delta(1+rnd.Intn(1+n/8), add, "")}
	case 3:
		return step{frame: delta(1+rnd.Intn(1+n/8), "", tokens("abc")[rnd.Intn(3)][:1])}
	case 4:
		if rnd.Intn(4) == 0 {
			return step{}
		}
	}
	return step{token: tokens("abcdefgh")[rnd.Intn(8)], time: 3 * n}
}

// P14.8, P14.9: the power goes at each act of scripts, whichever writes stay.
func TestPowerEverywhere(t *testing.T) {
	t.Parallel()
	rnd := rand.New(rand.NewSource(145))
	for i := range 5 {
		steps := []step{{}}
		for n := range 24 {
			steps = append(steps, someStep(rnd, n))
		}
		if losses, kept := everywhere(t, limited(2+i), append(steps, step{}), 0); losses < 80 || kept < 10 {
			t.Errorf("%d losses of power, %d calls kept", losses, kept)
		}
	}
}

// P14.8: likewise where the queue's log is written anew, in a presentation and in an acknowledgement.
func TestPowerInFullLogs(t *testing.T) {
	t.Parallel()
	steps := []step{{}}
	for n := range 20 {
		steps = append(steps, step{token: tokens("abcdefgh")[n%8], time: 10 * n}, step{frame: ack(n + 1)})
	}
	if losses, kept := everywhere(t, limited(1), steps, 0); losses < 120 || kept < 40 {
		t.Errorf("%d losses of power, %d calls kept", losses, kept)
	}
}

// P14.9: likewise where lists are great, and the store's log is written anew: versions never fall, and are whole.
func TestPowerInGreatLists(t *testing.T) {
	t.Parallel()
	steps := []step{{}, {token: a, time: 5}}
	for n := range 5 {
		d := api.Delta{Version: n + 1, Add: many(1000*n, 1000)}
		if n > 0 {
			d.Gone = many(1000*n-1000, 1000)
		}
		steps = append(steps, step{frame: deltaOf(d)})
	}
	if losses, kept := everywhere(t, plain(), steps, 76); losses < 150 || kept < 3 {
		t.Errorf("%d losses of power, %d calls kept", losses, kept)
	}
}

// P14.8: the tap under way is there, or it is not, as its write stays; it is as it would have been accepted.
func TestPowerInOnePresentation(t *testing.T) {
	for _, x := range []struct {
		acts              int
		done, stays, want bool
	}{{0, false, true, false}, {0, true, false, false}, {0, true, true, true}, {1, false, false, false}, {1, false, true, true}, {1, true, false, true}} {
		p := with(t, 3, 1)
		p.hand.Arm(x.acts, x.done)
		p.presents(a, 5, failed(api.ErrDown))
		if x.want {
			p.slow.dead = false
			p.slow.present(a, api.TapBus, 9, 5)
		}
		p.loses(x.stays)
		if is := p.gate.Len() == 2; is != x.want {
			t.Errorf("%v: %d items", x, p.gate.Len())
		}
	}
}

// P14.8: a tap that was lost with the power, and the next one with its counter: that one alone was accepted.
func TestCounterOfALostTap(t *testing.T) {
	p := with(t, 3, 1)
	p.hand.Arm(1, false)
	p.presents(a, 5, failed(api.ErrDown))
	p.loses(false)
	if v, n, _ := p.presentAt(b, 1, 3, 5); v != api.VerdictAccepted || n != 2 {
		t.Fatalf("%d, %d", v, n)
	}
	p.presents(a, 5, api.VerdictAccepted)
	p.loses()
	p.stands(1, 3, 0)
}

// P14.8: what was let go does not come back, though the power goes just behind.
func TestLetGoIsSafe(t *testing.T) {
	p := with(t, 3, 3)
	for n := 1; n <= 3; n++ {
		p.gets(ack(n), api.OK)
		if p.hand.Waiting() != 0 {
			t.Errorf("%d writes wait", p.hand.Waiting())
		}
		p.loses()
		p.stands(n+1, 3, 0)
	}
	p.presents(a, 500, api.VerdictAccepted)
	p.gets(delta(1, "b", ""), api.OK)
	if p.hand.Waiting() != 0 {
		t.Errorf("%d writes wait", p.hand.Waiting())
	}
}

// P14.8, P14.9: a gate's long life: any calls, the power going at any act, again and again, in Open too, any writes staying.
func TestPowerAgainAndAgain(t *testing.T) {
	t.Parallel()
	rnd := rand.New(rand.NewSource(146))
	kept, lost := 0, 0
	for range 25 {
		h := begun(limited(1 + rnd.Intn(6)))
		h.do(t, step{})
		for range 40 {
			h.hand.Arm(rnd.Intn(25), rnd.Intn(2) == 0)
			for h.do(t, h.some(rnd)) {
			}
			for rnd.Intn(2) == 0 {
				h.hand.Crash(someKeep(rnd, h.hand.Waiting()))
				h.hand.Arm(rnd.Intn(12), rnd.Intn(2) == 0)
				if _, err := gate.Open(h.hand.Disk(), h.setup); api.Number(err) == api.ErrGate {
					t.Fatal("it is no gate's any more")
				}
			}
			h.hand.Crash(someKeep(rnd, h.hand.Waiting()))
			if h.found(t, "again") {
				kept++
			} else {
				lost++
			}
		}
	}
	if kept < 100 || lost < 200 {
		t.Errorf("%d calls kept, %d lost", kept, lost)
	}
}

// some is a step that this gate often takes.
func (h *history) some(rnd *rand.Rand) step {
	s := someStep(rnd, h.gate.Counter())
	if s.frame.Kind == api.FrameDelta {
		l := h.gate.Risk()
		token := tokens("abc")[rnd.Intn(3)]
		if slices.Contains(l.Tokens, token) {
			s.frame = delta(l.Version+1, "", token[:1])
		} else {
			s.frame = delta(l.Version+1, token[:1], "")
		}
	}
	return s
}

func someKeep(rnd *rand.Rand, many int) []bool {
	keep := make([]bool, many)
	for i := range keep {
		keep[i] = rnd.Intn(2) == 0
	}
	return keep
}

// P14.3 to P14.6: any calls with power, over many Opens and losses of power, against the slow gate.
func TestCallsAgainstTheSlowGate(t *testing.T) {
	t.Parallel()
	rnd := rand.New(rand.NewSource(147))
	verdicts := map[int]int{}
	for range 40 {
		p := opened(t, api.Gate{Device: 1 + rnd.Intn(65535), Secret: "secret", Limit: 1 + rnd.Intn(9), Passback: rnd.Intn(9)})
		for n := range 150 {
			switch rnd.Intn(12) {
			case 0:
				p.again()
			case 1:
				p.loses()
			case 2, 3:
				p.tick()
			case 4:
				p.got(p.made(delta(p.gate.Risk().Version+1, tokens("abcd")[rnd.Intn(4)][:1], "")))
			case 5:
				p.got(p.made(delta(p.gate.Risk().Version+1, "", tokens("abcd")[rnd.Intn(4)][:1])))
			case 6:
				p.got(p.made(ack(max(0, p.gate.Counter()-rnd.Intn(6)+1))))
			default:
				v, _, e := p.presentAt(tokens("abcdefgh")[rnd.Intn(8)], rnd.Intn(5), 1+rnd.Intn(9), max(0, n+rnd.Intn(9)-4))
				verdicts[v+int(e)*10]++
			}
		}
	}
	for _, v := range []int{api.VerdictAccepted, api.VerdictListed, api.VerdictPassback, api.VerdictFull, int(api.ErrRecord) * 10} {
		if verdicts[v] < 50 {
			t.Errorf("%v", verdicts)
		}
	}
}
