package hub_test

import (
	"errors"
	"fmt"
	"math"
	"reflect"
	"slices"
	"strings"
	"testing"

	"farebox/api"
	"farebox/hub"
)

// isDead holds that every call answers as of a dead hub, with the disk down and with it up again, that there is no act, and that all is as the slow hub says.
func (p *both) isDead() {
	p.t.Helper()
	if !p.hub.Dead() {
		p.t.Fatal("it is not dead")
	}
	for range 2 {
		waiting := p.hand.Waiting()
		for _, f := range []api.Frame{items(1, 1, "a"), items(90, 90, "z"), have(0), have(9), ack(0)} {
			p.refuses(7, f, api.ErrHubDead)
			p.refuses(9, f, api.ErrHubDead)
			p.refusesBytes(8, nil, api.ErrHubDead)
		}
		for _, f := range []api.Frame{ack(0), ack(p.slow.last), ack(p.slow.last + 1), have(0), delta(p.slow.list.Version+1, "", ""), {Kind: api.FrameDelta}} {
			p.down(f, api.ErrHubDead)
		}
		p.gotDown(nil)
		if l := p.tick(); len(l) != 0 {
			p.t.Fatalf("%d frames", len(l))
		}
		if p.hand.Waiting() != waiting {
			p.t.Fatal("a dead hub writes")
		}
		p.hand.Crash(slices.Repeat([]bool{true}, waiting))
	}
}

// atEachAct does a call with the power going at each act of it, ahead of that and behind. The answer is how many acts the call has.
func atEachAct(t *testing.T, build func() *both, call func(*both) api.Errno) int {
	t.Helper()
	for acts := 0; ; acts++ {
		for _, done := range []bool{false, true} {
			p := build()
			p.hand.Arm(acts, done)
			e := call(p)
			if !p.hand.Down() {
				if e != api.OK {
					t.Fatalf("with power: %d", e)
				}
				return acts
			}
			if e != api.ErrDown {
				t.Fatalf("act %d was refused: %d", acts, e)
			}
			p.isDead()
		}
	}
}

// long is an item that is as long as a sealed tap.
var long = strings.Repeat("x", 37)

// takeSome takes so many items of the gate 8.
func takeSome(n int) func(p *both) api.Errno {
	return func(p *both) api.Errno {
		p.t.Helper()
		_, e := p.got(8, madeWith(p.t, p.slow.secret(8), items(1, 1, slices.Repeat([]string{long}, n)...)))
		return e
	}
}

func letOneGo(p *both) api.Errno {
	p.t.Helper()
	return p.gotDown(p.made(ack(p.slow.last - p.hub.Len() + 1)))
}

func letAllGo(p *both) api.Errno {
	p.t.Helper()
	return p.gotDown(p.made(ack(p.slow.last)))
}

func getNext(p *both) api.Errno {
	p.t.Helper()
	return p.gotDown(p.made(delta(p.hub.Risk().Version+1, "z", "b")))
}

// P15.3, P15.5, P15.6: whichever act of a call is refused, the hub is dead, and all is as ahead of that.
func TestDeadAtEachAct(t *testing.T) {
	build := func() *both {
		p := opened(t, limited(10)).fill(4)
		p.down(ack(1), api.OK)
		p.down(delta(1, "ab", ""), api.OK)
		return p
	}
	for n := 1; n <= 8; n++ {
		if acts := atEachAct(t, build, takeSome(n)); acts < 2 {
			t.Errorf("%d items: %d acts", n, acts)
		}
	}
	for what, acts := range map[string]int{
		"GotDown, of one":     atEachAct(t, build, letOneGo),
		"GotDown, of all":     atEachAct(t, build, letAllGo),
		"GotDown, of a delta": atEachAct(t, build, getNext),
		"the first items":     atEachAct(t, func() *both { return opened(t, plain()) }, takeSome(3)),
	} {
		if acts < 2 {
			t.Errorf("%s: %d acts: at least one to write, one to make it safe", what, acts)
		}
	}
}

// P15.3, P15.5, P15.6: likewise of calls that find a log full.
func TestDeadAtEachActOfARewrite(t *testing.T) {
	most := map[string]int{}
	for rounds := 22; rounds < 28; rounds++ {
		build := func() *both {
			p := opened(t, limited(2))
			for n := range rounds {
				p.takes(7, items(1, n+1, long), n+1)
				p.down(ack(n), api.OK)
			}
			return p
		}
		most["Got"] = max(most["Got"], atEachAct(t, build, takeSome(1)))
		most["GotDown"] = max(most["GotDown"], atEachAct(t, build, letAllGo))
	}
	if most["Got"] < 5 || most["GotDown"] < 5 {
		t.Errorf("no log was written anew: %v", most)
	}
	great := func(p *both) api.Errno {
		return p.gotDown(p.made(deltaOf(api.Delta{Version: p.hub.Risk().Version + 1, Add: many(1000*p.hub.Risk().Version, 1000), Gone: p.hub.Risk().Tokens})))
	}
	for rounds := range 3 {
		build := func() *both {
			p := opened(t, plain()).fill(1)
			for range rounds {
				great(p)
			}
			return p
		}
		if n := atEachAct(t, build, great); n < 17 {
			t.Errorf("a great delta, written by %d acts", n)
		}
	}
}

// P15.3, P15.5, P15.6: a dead hub still tells the items that it would have let go, and none of those that it would have taken: as many as one asks for, with their bytes.
func TestWaitingOfADeadHub(t *testing.T) {
	look := func(p *both, want []api.Item) {
		t.Helper()
		for most := -2; most < 9; most++ {
			if l := p.hub.Waiting(most); !sameItems(l, want[:max(0, min(most, 6))]) {
				t.Fatalf("Waiting(%d): %v", most, l)
			}
		}
		if l := p.hub.Waiting(math.MaxInt); !sameItems(l, want) || p.hub.Len() != 6 {
			t.Fatalf("%d: %v", p.hub.Len(), l)
		}
	}
	for acts := range 5 {
		for n := 1; n <= 6; n++ {
			p := opened(t, limited(9)).fill(6)
			want := p.hub.Waiting(9)
			p.hand.Arm(min(acts, 1), true)
			p.down(ack(n), api.ErrDown)
			look(p, want)
		}
		p := opened(t, limited(9)).fill(6)
		want := p.hub.Waiting(9)
		p.hand.Arm(min(acts, 3), acts == 4)
		p.refuses(8, items(1, 1, "a", "b", "c"), api.ErrDown)
		look(p, want)
	}
}

// P15.3, P15.5: a disk that is down already, by another's act: what needs none is answered as ever; the first that needs one is the hub's last.
func TestDeadByAnother(t *testing.T) {
	for i, call := range []func(*both) api.Errno{takeSome(1), takeSome(3), letOneGo, letAllGo, getNext} {
		p := opened(t, limited(3)).fill(2)
		p.down(delta(1, "b", ""), api.OK)
		p.hand.Arm(0, i%2 == 0)
		p.hand.Disk().Sync()
		p.takes(7, items(1, 1, "x", "y"), 2)
		p.leads(7, 0, deltaWith(1, "b", ""))
		p.refuses(9, have(0), api.ErrHubGate)
		p.down(ack(0), api.OK)
		p.down(ack(9), api.ErrArg)
		p.down(delta(1, "", ""), api.ErrRiskVersion)
		p.tick()
		if p.hub.Dead() {
			t.Fatal("it is dead")
		}
		if e := call(p); e != api.ErrDown {
			t.Fatalf("%d: %d", i, e)
		}
		p.isDead()
	}
}

// P15.6: a dead hub beside the one that is opened behind it on the same disk.
func TestDeadBesideANewOne(t *testing.T) {
	p := opened(t, limited(3)).fill(1)
	p.hand.Arm(1, false)
	p.refuses(7, items(1, 2, "b"), api.ErrDown)
	old := p.hub
	p.loses(false)
	p.takes(7, items(2, 2, "c"), 2)
	p.down(delta(1, "b", ""), api.OK)
	if l, err := old.Got(7, madeWith(t, p.slow.secret(7), items(2, 2, "c"))); len(l) != 0 || api.Number(err) != api.ErrHubDead {
		t.Errorf("%d frames, %v", len(l), err)
	}
	if old.Len() != 1 || old.Risk().Version != 0 || !old.Dead() {
		t.Errorf("%d, %d, %v", old.Len(), old.Risk().Version, old.Dead())
	}
	p.again()
	p.waits(1, "item 1", "c")
	p.lists(1, tokens("b")...)
}

// W10: errors are numbers, which errors.Is finds; where there is none it is nil.
func TestErrorsAreNumbers(t *testing.T) {
	p := opened(t, plain())
	_, open := hub.Open(p.hand.Disk(), api.Hub{})
	_, gate := p.hub.Got(9, nil)
	_, form := p.hub.Got(7, madeWith(t, p.slow.secret(7), ack(1)))
	for err, want := range map[error]api.Errno{open: api.ErrHub, gate: api.ErrHubGate, form: api.ErrLinkForm, p.hub.GotDown(nil): api.ErrLinkSeal, p.hub.GotDown(p.made(ack(9))): api.ErrArg} {
		if !errors.Is(err, want) {
			t.Errorf("%v, not %v", err, want)
		}
	}
	if _, err := p.hub.Got(7, madeWith(t, p.slow.secret(7), have(1))); err != nil {
		t.Error("nothing is wrong, and there is an error")
	}
	if p.hub.GotDown(p.made(ack(0))) != nil || p.hub.GotDown(p.made(delta(1, "a", ""))) != nil {
		t.Error("nothing is wrong, and there is an error")
	}
}

// A hub can be asked for what the chapter lists, and for nothing that would work past it.
func TestListedCalls(t *testing.T) {
	var names []string
	for m := range reflect.TypeFor[*hub.Hub]().Methods() {
		names = append(names, m.Name)
	}
	if want := []string{"Dead", "Got", "GotDown", "Len", "Risk", "Tick", "Waiting"}; !slices.Equal(names, want) {
		t.Errorf("%v, not %v", names, want)
	}
	if _, is := any(hub.Hub{}).(fmt.Stringer); is {
		t.Error("a hub tells itself")
	}
}
