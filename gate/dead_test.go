package gate_test

import (
	"errors"
	"fmt"
	"math"
	"reflect"
	"slices"
	"testing"

	"farebox/api"
	"farebox/gate"
)

// isDead holds that every call answers as of a dead gate, with the disk down and with it up again, that there is no act, and that all is as the slow gate says.
func (p *both) isDead() {
	p.t.Helper()
	if !p.gate.Dead() {
		p.t.Fatal("it is not dead")
	}
	for range 2 {
		waiting := p.hand.Waiting()
		for _, token := range []string{a, b, "", "00000000"} {
			p.presents(token, 5, failed(api.ErrGateDead))
			p.presents(token, -1, failed(api.ErrGateDead))
		}
		for _, f := range []api.Frame{ack(0), ack(p.slow.last), ack(p.slow.last + 1), have(0), delta(p.slow.list.Version+1, "", ""), {Kind: api.FrameDelta}} {
			p.gets(f, api.ErrGateDead)
		}
		p.got(nil)
		if l := p.tick(); len(l) != 0 {
			p.t.Fatalf("%d frames", len(l))
		}
		if p.hand.Waiting() != waiting {
			p.t.Fatal("a dead gate writes")
		}
		p.hand.Crash(slices.Repeat([]bool{true}, waiting))
	}
}

// atEachAct does a call with the power going at each act of it, ahead of that and behind. The answer is how many acts the call has.
func atEachAct(t *testing.T, build func() *both, call func(*both) api.Errno) int {
	t.Helper()
	for acts := 0; ; acts++ {
		for _, done := range []bool{false, true} {
			p := build()
			p.hand.Arm(acts, done)
			e := call(p)
			if !p.hand.Down() {
				if e != api.OK {
					t.Fatalf("with power: %d", e)
				}
				return acts
			}
			if e != api.ErrDown {
				t.Fatalf("act %d was refused: %d", acts, e)
			}
			p.isDead()
		}
	}
}

func presentOne(p *both) api.Errno {
	p.t.Helper()
	v, _, e := p.presentAt(c, api.TapExit, 3, 5000)
	if e == api.OK && v != api.VerdictAccepted {
		p.t.Fatalf("it was not accepted: %d", v)
	}
	return e
}

func letOneGo(p *both) api.Errno {
	p.t.Helper()
	return p.got(p.made(ack(p.gate.Counter() - p.gate.Len() + 1)))
}

func letAllGo(p *both) api.Errno {
	p.t.Helper()
	return p.got(p.made(ack(p.gate.Counter())))
}

func getNext(p *both) api.Errno {
	p.t.Helper()
	return p.got(p.made(delta(p.gate.Risk().Version+1, "z", "b")))
}

// P14.3, P14.5, P14.6: whichever act of a call is refused, the gate is dead, and all is as ahead of that.
func TestDeadAtEachAct(t *testing.T) {
	build := func() *both {
		p := with(t, 5, 4)
		p.gets(ack(1), api.OK)
		p.gets(delta(1, "ab", ""), api.OK)
		return p
	}
	for what, acts := range map[string]int{
		"Present":           atEachAct(t, build, presentOne),
		"Got, of one":       atEachAct(t, build, letOneGo),
		"Got, of all":       atEachAct(t, build, letAllGo),
		"Got, of a delta":   atEachAct(t, build, getNext),
		"the first Present": atEachAct(t, func() *both { return opened(t, plain()) }, presentOne),
	} {
		if acts != 2 {
			t.Errorf("%s: %d acts: one to write, one to make it safe", what, acts)
		}
	}
}

// P14.3, P14.5, P14.6: likewise of calls that find a log full.
func TestDeadAtEachActOfARewrite(t *testing.T) {
	most := map[string]int{}
	for rounds := 22; rounds < 28; rounds++ {
		build := func() *both {
			p := opened(t, limited(2))
			p.gets(delta(1, "b", ""), api.OK)
			for n := range rounds {
				p.presents(a, 10*n, api.VerdictAccepted)
				p.gets(ack(n), api.OK)
			}
			return p
		}
		most["Present"] = max(most["Present"], atEachAct(t, build, presentOne))
		most["Got, of an Ack"] = max(most["Got, of an Ack"], atEachAct(t, build, letAllGo))
	}
	great := func(p *both) api.Errno {
		n := p.gate.Risk().Version
		return p.got(p.made(deltaOf(api.Delta{Version: n + 1, Add: many(1000*n, 1000), Gone: p.gate.Risk().Tokens})))
	}
	for rounds := 3; rounds < 5; rounds++ {
		build := func() *both {
			p := with(t, 2, 1)
			for range rounds {
				great(p)
			}
			return p
		}
		n := atEachAct(t, build, great)
		most["Got, of a delta"] = max(most["Got, of a delta"], n)
		if n < 17 {
			t.Errorf("a great list, written by %d acts", n)
		}
	}
	if most["Present"] < 5 || most["Got, of an Ack"] < 5 || most["Got, of a delta"] < 19 {
		t.Errorf("no log was written anew: %v", most)
	}
}

// P14.5, P14.6: a dead gate still tells the items that it would have let go: as many as one asks for, with their bytes.
func TestWaitingOfADeadGate(t *testing.T) {
	for acts := range 2 {
		for n := 1; n <= 6; n++ {
			p := with(t, 9, 6)
			want := p.gate.Waiting(9)
			p.hand.Arm(acts, true)
			p.gets(ack(n), api.ErrDown)
			for most := -2; most < 9; most++ {
				if l := p.gate.Waiting(most); !sameItems(l, want[:max(0, min(most, 6))]) {
					t.Fatalf("%d let go, Waiting(%d): %v", n, most, l)
				}
			}
			if p.gate.Len() != 6 || p.gate.Counter() != 6 {
				t.Fatalf("%d, %d", p.gate.Len(), p.gate.Counter())
			}
		}
		p := with(t, 9, 6)
		p.hand.Arm(acts, true)
		p.presents(c, 5000, failed(api.ErrDown))
		if l := p.gate.Waiting(math.MaxInt); len(l) != 6 || l[5].Seq != 6 || p.gate.Len() != 6 || p.gate.Counter() != 6 {
			t.Fatalf("%v", l)
		}
	}
}

// P14.3, P14.5: a disk that is down already, by another's act: what needs none is answered as ever; the first that needs one is the gate's last.
func TestDeadByAnother(t *testing.T) {
	for i, call := range []func(*both) api.Errno{presentOne, letOneGo, letAllGo, getNext} {
		p := with(t, 3, 2)
		p.gets(delta(1, "b", ""), api.OK)
		p.hand.Arm(0, i%2 == 0)
		p.hand.Disk().Sync()
		p.presents(b, 5, api.VerdictListed)
		p.presents("00000001", 2, api.VerdictPassback)
		p.presents(a, -1, failed(api.ErrRecord))
		p.gets(ack(0), api.OK)
		p.gets(ack(9), api.ErrArg)
		p.gets(delta(1, "", ""), api.ErrRiskVersion)
		p.tick()
		if p.gate.Dead() {
			t.Fatal("it is dead")
		}
		if e := call(p); e != api.ErrDown {
			t.Fatalf("%d: %d", i, e)
		}
		p.isDead()
	}
}

// P14.6: a dead gate beside the one that is opened behind it on the same disk.
func TestDeadBesideANewOne(t *testing.T) {
	p := with(t, 3, 1)
	p.hand.Arm(1, false)
	p.presents(b, 5, failed(api.ErrDown))
	old := p.gate
	p.loses(false)
	p.presents(c, 5, api.VerdictAccepted)
	p.gets(delta(1, "b", ""), api.OK)
	if v, n, err := old.Present(a, 1, 3, 5); v != 0 || n != 0 || api.Number(err) != api.ErrGateDead {
		t.Errorf("%d, %d, %v", v, n, err)
	}
	if old.Len() != 1 || old.Counter() != 1 || old.Risk().Version != 0 || !old.Dead() {
		t.Errorf("%d, %d, %d, %v", old.Len(), old.Counter(), old.Risk().Version, old.Dead())
	}
	p.again()
	p.stands(1, 2, 1, b)
}

// W10: errors are numbers, which errors.Is finds; where there is none it is nil.
func TestErrorsAreNumbers(t *testing.T) {
	p := with(t, 1, 1)
	_, _, wrong := p.gate.Present("", 1, 1, 1)
	_, open := gate.Open(p.hand.Disk(), api.Gate{})
	for err, want := range map[error]api.Errno{wrong: api.ErrRecord, open: api.ErrGate, p.gate.Got(nil): api.ErrLinkSeal, p.gate.Got(p.made(ack(9))): api.ErrArg} {
		if !errors.Is(err, want) {
			t.Errorf("%v, not %v", err, want)
		}
	}
	if _, _, err := p.gate.Present(a, 1, 1, 1); err != nil {
		t.Error("a verdict, and an error")
	}
	if p.gate.Got(p.made(ack(1))) != nil || p.gate.Got(p.made(delta(1, "a", ""))) != nil {
		t.Error("nothing is wrong, and there is an error")
	}
}

// A gate can be asked for what the chapter lists, and for nothing that would work past it.
func TestListedCalls(t *testing.T) {
	var names []string
	for m := range reflect.TypeFor[*gate.Gate]().Methods() {
		names = append(names, m.Name)
	}
	if want := []string{"Counter", "Dead", "Got", "Len", "Present", "Risk", "Tick", "Waiting"}; !slices.Equal(names, want) {
		t.Errorf("%v, not %v", names, want)
	}
	if _, is := any(gate.Gate{}).(fmt.Stringer); is {
		t.Error("a gate tells itself")
	}
}
