package ingest_test

import (
	"bytes"
	"encoding/binary"
	"errors"
	"fmt"
	"maps"
	"reflect"
	"slices"
	"strings"
	"testing"

	"farebox/api"
	"farebox/block"
	"farebox/ingest"
)

// isDead holds that every call answers as of a dead office, with the disk down and with it up again, that there is no act, and that all is as the slow office says.
func (p *both) isDead() {
	p.t.Helper()
	if !p.office.Dead() {
		p.t.Fatal("it is not dead")
	}
	for range 2 {
		waiting := p.hand.Waiting()
		for _, f := range append(otherFrames(), frame(1, 1, nil), frame(90, 90, sealed(tap(90, "z", 1)))) {
			p.refuses(20, f, api.ErrIngestDead)
			p.refuses(21, f, api.ErrIngestDead)
			p.refusesBytes(20, nil, api.ErrIngestDead)
		}
		for _, l := range [][]string{nil, {"a", "new"}, {"b", strings.Repeat("v", 16384)}} {
			if e := p.commits(l...); e != api.ErrIngestDead {
				p.t.Fatalf("Commit: %d", e)
			}
		}
		other := opened(p.t, plain(), 10)
		if e := api.Number(p.office.Commit(other.office.Begin())); e != api.ErrIngestDead {
			p.t.Fatalf("Commit of another's draft: %d", e)
		}
		if !maps.Equal(entriesOf(p.office.Begin()), p.slow.entries) {
			p.t.Fatal("Begin: something else")
		}
		if p.hand.Waiting() != waiting {
			p.t.Fatal("a dead office writes")
		}
		p.hand.Crash(slices.Repeat([]bool{true}, waiting))
	}
}

// atEachAct does a call with the power going at each act of it, ahead of that and behind. The answer is how many acts the call has.
func atEachAct(t *testing.T, build func() *both, call func(*both) api.Errno) int {
	t.Helper()
	for acts := 0; ; acts++ {
		for _, done := range []bool{false, true} {
			p := build()
			p.hand.Arm(acts, done)
			e := call(p)
			if !p.hand.Down() {
				if e != api.OK {
					t.Fatalf("with power: %d", e)
				}
				return acts
			}
			if e != api.ErrDown {
				t.Fatalf("act %d was refused: %d", acts, e)
			}
			p.isDead()
		}
	}
}

// gets is Got of a frame of the hub 20.
func gets(f api.Frame) func(*both) api.Errno {
	return func(p *both) api.Errno {
		p.t.Helper()
		_, e := p.got(20, madeWith(p.t, p.slow.secret(20), f))
		return e
	}
}

// lays is Commit of entries.
func lays(l ...string) func(*both) api.Errno {
	return func(p *both) api.Errno {
		p.t.Helper()
		return p.commits(l...)
	}
}

// P16.2, P16.3, P16.4: whichever act of a call is refused, the office is dead, and all is as ahead of that.
func TestDeadAtEachAct(t *testing.T) {
	for what, call := range map[string]func(*both) api.Errno{
		"a tap":           gets(frame(50, 50, sealed(tap(51, "a", 1)))),
		"taps":            gets(frame(50, 50, sealed(tap(51, "a", 1)), sealed(tap(52, "b", 1)), sealed(tap(53, "a", 2)))),
		"a bad item":      gets(frame(50, 50, nil)),
		"a great one":     gets(frame(50, 50, make([]byte, 256))),
		"great ones":      gets(frame(50, 50, slices.Repeat([][]byte{make([]byte, 256)}, 8)...)),
		"a counter twice": gets(frame(50, 50, sealed(tap(1, "z", 1)))),
		"all kinds":       gets(frame(50, 50, sealed(tap(1, "b", 5)), sealed(tap(51, "a", 1)), nil, sealed(tap(1, "z", 1)))),
		"Commit":          lays("a", "2", "-z", ""),
		"a great Commit":  lays("v", strings.Repeat("v", 3000)),
	} {
		if acts := atEachAct(t, func() *both { return some(t) }, call); acts < 2 {
			t.Errorf("%s: %d acts: at least one to write, one to make it safe", what, acts)
		}
		fresh := func() *both { return opened(t, two(), 40) }
		if what != "a counter twice" {
			atEachAct(t, fresh, call)
		}
	}
}

// P16.2, P16.3: likewise of calls that find the log full.
func TestDeadAtEachActOfARewrite(t *testing.T) {
	anew := 0
	for rounds := 1; rounds < 9; rounds++ {
		build := func() *both {
			p := opened(t, plain(), 8)
			p.sends(sealed(tap(1, "a", 1)), []byte("bad"))
			for range rounds {
				p.commits("a", strings.Repeat("v", 150))
				p.commits("-a", "")
			}
			return p
		}
		for _, call := range []func(*both) api.Errno{gets(frame(3, 3, make([]byte, 256), sealed(tap(2, "a", 1)))), lays("a", strings.Repeat("v", 400))} {
			atEachAct(t, build, call)
			p := build()
			before := epoch(p.hand)
			call(p)
			if epoch(p.hand) > before {
				anew++
			}
		}
	}
	if anew < 2 {
		t.Errorf("a log was written anew %d times", anew)
	}
}

// epoch is the greater number of the two heads of a log: it rises whenever the log is written anew.
func epoch(h *block.Hand) uint64 {
	return max(binary.BigEndian.Uint64(h.Sector(0)[4:]), binary.BigEndian.Uint64(h.Sector(1)[4:]))
}

// P16.2: a disk that is down already, by another's act: what needs none is answered as ever; the first that needs one is the office's last.
func TestDeadByAnother(t *testing.T) {
	for i, call := range []func(*both) api.Errno{gets(frame(50, 50, nil)), gets(frame(50, 50, sealed(tap(51, "a", 1)))), lays("a", "5")} {
		p := some(t)
		p.hand.Arm(0, i%2 == 0)
		p.hand.Disk().Sync()
		p.takes(20, frame(1, 1, sealed(tap(1, "b", 5))), 4)
		p.takes(20, frame(1, 5, sealed(tap(1, "b", 5))), 5)
		p.refuses(21, frame(1, 1, nil), api.ErrIngestHub)
		p.refuses(20, api.Frame{Kind: api.FrameHave}, api.ErrLinkForm)
		p.refuses(20, frame(9, 9, slices.Repeat([][]byte{make([]byte, 256)}, 8)...), api.ErrDown)
		p.loses()
		p.hand.Arm(0, i%2 == 0)
		p.hand.Disk().Sync()
		if e := p.commits(); e != api.OK {
			t.Fatal(e)
		}
		if e := p.commits("a", strings.Repeat("v", 9000)); e != api.ErrBig {
			t.Fatal(e)
		}
		if p.office.Dead() {
			t.Fatal("it is dead")
		}
		if e := call(p); e != api.ErrDown {
			t.Fatalf("%d: %d", i, e)
		}
		p.isDead()
	}
}

// P16.4: a dead office beside the one that is opened behind it on the same disk.
func TestDeadBesideANewOne(t *testing.T) {
	p := opened(t, plain(), 20)
	p.sends(sealed(tap(1, "a", 1)), []byte("bad"))
	p.hand.Arm(1, false)
	p.refuses(20, frame(3, 3, sealed(tap(2, "a", 2)), nil), api.ErrDown)
	old := p.office
	p.loses(false)
	p.sends(sealed(tap(3, "a", 3)), []byte("worse"))
	if l, err := old.Got(20, madeWith(t, p.slow.secret(20), frame(3, 3, nil))); len(l) != 0 || api.Number(err) != api.ErrIngestDead {
		t.Errorf("%d frames, %v", len(l), err)
	}
	if !slices.Equal(old.Taps(), []api.Tap{tap(1, "a", 1)}) || !slices.EqualFunc(old.Bad(), [][]byte{[]byte("bad")}, bytes.Equal) || !old.Dead() {
		t.Errorf("%v, %q, %v", old.Taps(), old.Bad(), old.Dead())
	}
	if e := api.Number(p.office.Commit(old.Begin())); e != api.ErrStoreStale {
		t.Errorf("a dead one's draft: %d", e)
	}
	p.again()
	p.has(tap(1, "a", 1), tap(3, "a", 3))
}

// W10: errors are numbers, which errors.Is finds; where there is none it is nil.
func TestErrorsAreNumbers(t *testing.T) {
	p := opened(t, plain(), 4)
	_, open := ingest.Open(p.hand.Disk(), api.Office{})
	_, hub := p.office.Got(21, nil)
	_, other := p.office.Got(20, nil)
	_, form := p.office.Got(20, madeWith(t, p.slow.secret(20), otherFrames()[0]))
	_, big := p.office.Got(20, madeWith(t, p.slow.secret(20), frame(1, 1, make([]byte, 256))))
	stale := p.office.Commit(opened(t, plain(), 4).office.Begin())
	for err, want := range map[error]api.Errno{open: api.ErrIngest, hub: api.ErrIngestHub, other: api.ErrLinkSeal, form: api.ErrLinkForm, big: api.ErrBig, stale: api.ErrStoreStale} {
		if !errors.Is(err, want) {
			t.Errorf("%v, not %v", err, want)
		}
	}
	if _, err := p.office.Got(20, madeWith(t, p.slow.secret(20), frame(1, 1, nil))); err != nil {
		t.Error("nothing is wrong, and there is an error")
	}
	if p.office.Commit(p.office.Begin()) != nil {
		t.Error("nothing is wrong, and there is an error")
	}
}

// An office can be asked for what the chapter lists, and for nothing that would work past it.
func TestListedCalls(t *testing.T) {
	var names []string
	for m := range reflect.TypeFor[*ingest.Office]().Methods() {
		names = append(names, m.Name)
	}
	if want := []string{"Bad", "Begin", "Commit", "Dead", "Got", "Taps"}; !slices.Equal(names, want) {
		t.Errorf("%v, not %v", names, want)
	}
	if _, is := any(ingest.Office{}).(fmt.Stringer); is {
		t.Error("an office tells itself")
	}
}
