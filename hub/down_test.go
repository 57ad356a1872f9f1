package hub_test

import (
	"bytes"
	"fmt"
	"math"
	"math/rand"
	"slices"
	"testing"

	"farebox/api"
	"farebox/link"
)

// ticks holds a tick against what the test says: of each frame of items its first number, and how many there are; then the version.
func (p *both) ticks(version int, want ...int) {
	p.t.Helper()
	l := p.tick()
	number := p.slow.setup.Number
	if len(l) != len(want)/2+1 {
		p.t.Fatalf("%s, not %v", p.told(number, l), want)
	}
	secret, _ := link.Secret(p.slow.setup.Secret, number)
	for i, x := range l {
		f, e := link.Parse(secret, x)
		if e != api.OK {
			p.t.Fatalf("the frame %d: %d", i, e)
		}
		if i == len(l)-1 {
			if f.Kind != api.FrameHave || f.Seq != version {
				p.t.Fatalf("%s, not the version %d", p.told(number, l), version)
			}
			continue
		}
		if f.Kind != api.FrameItems || f.Seq != want[2*i] || len(f.Items) != want[2*i+1] || f.Base != p.hub.Waiting(1)[0].Seq {
			p.t.Fatalf("%s, not %v", p.told(number, l), want)
		}
		for j, item := range f.Items {
			if first := f.Seq - f.Base; !bytes.Equal(item, p.hub.Waiting(8)[first+j].Bytes) {
				p.t.Fatalf("the item %d is another one", f.Seq+j)
			}
		}
	}
}

// P15.4: queues with none, fewer and more items than a frame, and than the window, has.
func TestTickOfItems(t *testing.T) {
	for n, want := range map[int][]int{0: nil, 1: {1, 1}, 3: {1, 3}, 4: {1, 4}, 5: {1, 4, 5, 1}, 7: {1, 4, 5, 3}, 8: {1, 4, 5, 4}, 9: {1, 4, 5, 4}, 20: {1, 4, 5, 4}} {
		p := opened(t, limited(20)).fill(n)
		for range 4 {
			p.ticks(0, want...)
			p.ticks(0)
			p.ticks(0)
		}
	}
}

// P15.4: what is let go is not sent, what comes behind it is; the rest is sent again behind three ticks.
func TestTickGoesOn(t *testing.T) {
	p := opened(t, limited(20)).fill(12)
	p.ticks(0, 1, 4, 5, 4)
	p.down(ack(2), api.OK)
	p.ticks(0, 9, 2)
	p.down(delta(1, "a", ""), api.OK)
	p.down(ack(3), api.OK)
	p.ticks(1, 11, 1)
	p.ticks(1, 4, 4, 8, 1)
	p.ticks(1, 9, 2)
	p.down(ack(12), api.OK)
	p.ticks(1)
	p.takes(8, items(1, 1, "x"), 1)
	p.ticks(1, 13, 1)
	p.takes(7, items(1, 13, "y"), 13)
	p.ticks(1, 14, 1)
	p.ticks(1)
	p.ticks(1, 13, 1)
	p.ticks(1, 14, 1)
}

// P15.4: the sender is made by Open: behind that all is sent anew.
func TestTickBehindOpen(t *testing.T) {
	p := opened(t, limited(9)).fill(9)
	p.down(delta(1, "a", ""), api.OK)
	for range 3 {
		p.ticks(1, 1, 4, 5, 4)
		p.ticks(1)
		p.again()
	}
	p.ticks(1, 1, 4, 5, 4)
	p.loses()
	p.ticks(1, 1, 4, 5, 4)
}

// P15.4: ticking is no act, and can go on with the disk down, as long as the hub is not dead.
func TestTickWithoutActs(t *testing.T) {
	p := opened(t, limited(9)).fill(9)
	p.hand.Arm(0, false)
	for range 9 {
		p.tick()
	}
	if p.hand.Down() {
		t.Error("there was an act")
	}
	p.hand.Disk().Sync()
	for range 9 {
		if len(p.tick()) == 0 {
			t.Error("a hub that is not dead ticks no more")
		}
	}
	p.down(ack(1), api.ErrDown)
	for range 9 {
		if l := p.tick(); len(l) != 0 {
			t.Errorf("a dead hub: %d frames", len(l))
		}
	}
	p.loses()
	p.ticks(0, 1, 4, 5, 4)
}

// P15.4: items of the greatest size and numbers go up, too.
func TestTickOfGreatItems(t *testing.T) {
	p := near(t, limited(9), 8)
	great := string(bytes.Repeat([]byte{255}, 256))
	p.takes(7, items(1, 1, slices.Repeat([]string{great}, 8)...), 8)
	p.ticks(0, api.MaxCounter-7, 4, api.MaxCounter-3, 4)
}

// P15.4: what a hub sends reaches the office over a link that loses and mixes up: each once, in order; what the office takes it lets go.
func TestTickToTheOffice(t *testing.T) {
	rnd := rand.New(rand.NewSource(155))
	for range 10 {
		p := opened(t, limited(40)).fill(40)
		sent := p.hub.Waiting(40)
		r := link.NewReceiver()
		var took []api.Item
		var air [][]byte
		for ticks := 0; p.hub.Len() > 0; ticks++ {
			if ticks > 5000 {
				t.Fatal("they never arrive")
			}
			air = append(air, p.tick()...)
			for range rnd.Intn(6) {
				f, _ := link.Parse(p.slow.secret(20), air[rnd.Intn(len(air))])
				for _, x := range r.Got(f) {
					took = append(took, x)
					r.Take(x.Seq)
				}
				if f, is := r.Ack(); is && rnd.Intn(2) == 0 {
					p.down(f, api.OK)
				}
			}
			air = air[max(0, len(air)-20):]
		}
		if !sameItems(took, sent) {
			t.Fatalf("%d arrived", len(took))
		}
	}
}

// P15.5: FrameAck below, at and above the last item's number, of a hub of which some were let go, and of one without items.
func TestAcks(t *testing.T) {
	for n := range 12 {
		p := opened(t, limited(9)).fill(9)
		p.down(ack(3), api.OK)
		want, first := api.OK, max(n, 3)+1
		if n > 9 {
			want, first = api.ErrArg, 4
		}
		for range 2 {
			p.down(ack(n), want)
			p.waits(first, words(first, 10-first)...)
		}
		p.loses()
		p.waits(first, words(first, 10-first)...)
		p.takes(8, items(1, 1, "x"), 1)
		p.waits(first, append(words(first, 10-first), "x")...)
	}
	p := opened(t, plain())
	p.down(ack(0), api.OK)
	for _, n := range []int{1, 2, 1 << 16, api.MaxCounter} {
		p.down(ack(n), api.ErrArg)
	}
	p = near(t, plain(), 1)
	p.down(ack(api.MaxCounter), api.ErrArg)
	p.takes(7, items(1, 1, "a"), 1)
	p.down(ack(0), api.OK)
	p.down(ack(api.MaxCounter-1), api.OK)
	p.waits(api.MaxCounter, "a")
	p.down(ack(api.MaxCounter), api.OK)
	p.waits(api.MaxCounter + 1)
	p.down(ack(api.MaxCounter), api.OK)
}

// P15.5: what lets nothing go, or is refused, is no act.
func TestDownWithoutActs(t *testing.T) {
	p := opened(t, limited(9)).fill(5)
	p.down(ack(2), api.OK)
	p.down(delta(1, "a", ""), api.OK)
	p.hand.Arm(0, false)
	for range 100 {
		p.down(ack(0), api.OK)
		p.down(ack(1), api.OK)
		p.down(ack(2), api.OK)
		p.down(ack(6), api.ErrArg)
		p.down(have(0), api.ErrLinkForm)
		p.down(delta(1, "a", ""), api.ErrRiskVersion)
		p.down(delta(2, "a", ""), api.ErrRiskToken)
	}
	if p.hand.Down() {
		t.Error("there was an act")
	}
	p.down(ack(3), api.ErrDown)
}

// P15.5: FrameItems and FrameHave are nothing that the office sends.
func TestOtherFramesOfTheOffice(t *testing.T) {
	p := opened(t, limited(9)).fill(2)
	for _, f := range []api.Frame{have(0), have(1), have(api.MaxRuns), items(1, 1, "a"), items(3, 3, "c", "d")} {
		p.down(f, api.ErrLinkForm)
	}
	for _, x := range p.tick() {
		if e := p.gotDown(x); e != api.ErrLinkForm {
			t.Errorf("a frame of its own: %d", e)
		}
	}
	p.waits(1, words(1, 2)...)
}

// P15.5: bytes that are no frame, under the right seal.
func TestNoFramesOfTheOffice(t *testing.T) {
	p := opened(t, limited(9)).fill(2)
	for _, x := range noFrames() {
		if e := p.gotDown(slowSeal(p.slow.secret(20), x)); e != api.ErrLinkForm {
			t.Errorf("%.20v: %d", x, e)
		}
	}
	p.waits(1, words(1, 2)...)
}

// P15.5: frames with another seal: of other nodes and secrets, spoilt in any byte, cut off, longer, none at all.
func TestOtherSealsOfTheOffice(t *testing.T) {
	p := opened(t, limited(9)).fill(2)
	refuses := func(what string, x []byte) {
		t.Helper()
		if e := p.gotDown(x); e != api.ErrLinkSeal {
			t.Fatalf("%s: %d", what, e)
		}
	}
	for _, f := range []api.Frame{ack(1), ack(9), have(0), delta(1, "a", ""), {Kind: api.FrameDelta}} {
		right := p.made(f)
		for _, secret := range []string{"", "k", slowKey("k", 20), slowSecret("k", 7), slowSecret("k", 8), slowSecret("k", 0), slowSecret("l", 20), slowKey("k", 0)} {
			refuses("another secret's", madeWith(t, secret, f))
		}
		for at := range right {
			for _, by := range []byte{1, 128, 255} {
				x := bytes.Clone(right)
				x[at] ^= by
				refuses("spoilt", x)
			}
			refuses("cut off", right[:at])
		}
		refuses("longer", append(bytes.Clone(right), 0))
		refuses("twice", slices.Concat(right, right))
	}
	refuses("none", nil)
	refuses("noughts", make([]byte, 100))
	p.waits(1, words(1, 2)...)
	p.lists(0)
}

// P15.5: deltas, version by version; the list lasts.
func TestDeltas(t *testing.T) {
	p := opened(t, plain())
	for i, x := range []struct{ add, gone, want string }{{"b", "", "b"}, {"ac", "", "abc"}, {"", "", "abc"}, {"d", "ab", "cd"}, {"", "cd", ""}, {"", "", ""}, {"abcd", "", "abcd"}, {"efgh", "abcd", "efgh"}} {
		p.down(delta(i+1, x.add, x.gone), api.OK)
		p.lists(i+1, tokens(x.want)...)
		if p.hand.Waiting() != 0 {
			t.Errorf("%d writes wait", p.hand.Waiting())
		}
		if i%2 == 0 {
			p.loses()
		} else {
			p.again()
		}
		p.lists(i+1, tokens(x.want)...)
		p.leads(7, i, deltaWith(i+1, x.add, x.gone))
	}
}

// P15.5: each error of risk.Apply, and bytes that are no delta; the first one is told, and nothing has changed.
func TestDeltasThatMayNotBe(t *testing.T) {
	p := opened(t, plain())
	p.down(delta(1, "b", ""), api.OK)
	p.down(deltaOf(api.Delta{Version: 2, Add: many(0, 998)}), api.OK)
	raw := func(what string, want api.Errno, x []byte) {
		t.Helper()
		if e := p.gotDown(p.made(api.Frame{Kind: api.FrameDelta, Bytes: x})); e != want {
			t.Errorf("%s: %d, not %d", what, e, want)
		}
	}
	next := slowDelta(deltaWith(3, "ac", ""))
	spoil := func(at int, by byte) []byte {
		x := bytes.Clone(next)
		x[at] = by
		return x
	}
	raw("nothing", api.ErrRecord, nil)
	raw("a byte", api.ErrRecord, []byte("x"))
	raw("one byte less", api.ErrRecord, next[:len(next)-1])
	raw("one byte more", api.ErrRecord, append(bytes.Clone(next), 0))
	raw("tokens that fall", api.ErrRecord, spoil(10, 'z'))
	raw("a token twice", api.ErrRecord, slices.Concat(next[:18], next[10:18], next[26:]))
	raw("a version below 0", api.ErrRecord, spoil(0, 128))
	raw("the version 0", api.ErrRecord, spoil(7, 0))
	raw("a token in both", api.ErrRecord, slices.Concat(next[:26], []byte{0, 1}, next[10:18]))
	raw("too many", api.ErrRecord, spoil(8, 255))
	raw("the version 3, twice over", api.ErrRecord, slices.Concat(next, next))
	for _, version := range []int{1, 2, 4, 5, 259, math.MaxInt} {
		p.down(delta(version, "a", ""), api.ErrRiskVersion)
		p.down(delta(version, "b", "a"), api.ErrRiskVersion)
		p.down(delta(version, "acdef", ""), api.ErrRiskVersion)
	}
	for _, f := range []api.Frame{delta(3, "b", ""), delta(3, "ab", ""), delta(3, "", "a"), delta(3, "", "ab"), delta(3, "b", "a"), delta(3, "abcdef", ""), delta(3, "acdef", "g")} {
		p.down(f, api.ErrRiskToken)
	}
	p.down(delta(3, "ac", ""), api.ErrLong)
	p.down(delta(3, "acd", "b"), api.ErrLong)
	p.lists(2, append(many(0, 998), tokens("b")...)...)
	p.leads(7, 2, api.Delta{})
	p.down(delta(3, "ac", "b"), api.OK)
	p.lists(3, append(many(0, 998), tokens("ac")...)...)
}

// P15.5: a store that is full of deltas takes no more: ErrFull, and nothing has changed; what still fits is taken; what is wrong with a delta comes ahead of that.
func TestFullOfGreatDeltas(t *testing.T) {
	p := opened(t, plain())
	p.down(deltaOf(api.Delta{Version: 1, Add: many(0, 1000)}), api.OK)
	p.down(deltaOf(api.Delta{Version: 2, Add: many(1000, 1000), Gone: many(0, 1000)}), api.OK)
	great := api.Delta{Version: 3, Add: many(2000, 1000), Gone: many(1000, 1000)}
	p.down(deltaOf(great), api.OK)
	p.lists(3, many(2000, 1000)...)
	for _, d := range []api.Delta{{Version: 4, Add: many(3000, 1000), Gone: many(2000, 1000)}, {Version: 4, Gone: many(2000, 1000), Add: many(0, 500)}} {
		p.down(deltaOf(d), api.ErrFull)
	}
	p.down(deltaOf(great), api.ErrRiskVersion)
	p.down(deltaOf(api.Delta{Version: 4, Add: many(2500, 1000), Gone: many(2000, 500)}), api.ErrRiskToken)
	p.down(deltaOf(api.Delta{Version: 4, Add: many(0, 1000)}), api.ErrLong)
	p.lists(3, many(2000, 1000)...)
	p.leads(7, 2, great)
	p.leads(7, 3, api.Delta{})
	if p.hub.Dead() {
		t.Error("it is dead")
	}
	p.takes(7, items(1, 1, "a"), 1)
	p.down(deltaOf(api.Delta{Version: 4, Gone: many(2000, 1000)}), api.OK)
	p.lists(4)
	p.loses()
	p.lists(4)
	p.waits(1, "a")
}

// P15.5: just as much as there is room for, and one token more, of each count of versions: a version counts 26, and 16 for each token that it adds, in the delta and in the list.
func TestFullToTheLastByte(t *testing.T) {
	for versions := 4; versions <= 12; versions++ {
		p := opened(t, plain())
		all := (50124 - 18 - 26*versions) / 16
		each := (all - 500) / (versions - 1)
		for n := 1; n < versions; n++ {
			p.down(deltaOf(api.Delta{Version: n, Add: many(1000*n, each), Gone: p.hub.Risk().Tokens}), api.OK)
		}
		rest := all - each*(versions-1)
		last := api.Delta{Version: versions, Add: many(90000, rest+1), Gone: p.hub.Risk().Tokens}
		p.down(deltaOf(last), api.ErrFull)
		last.Gone = nil
		p.down(deltaOf(last), map[bool]api.Errno{true: api.ErrFull, false: api.ErrLong}[rest+1+each <= 1000])
		last.Add, last.Gone = last.Add[:rest], p.hub.Risk().Tokens
		p.down(deltaOf(last), api.OK)
		if n := p.slow.size(); n > 50124 || n <= 50124-16 || n < 50124 && versions == 9 {
			t.Errorf("%d versions: %d bytes", versions, n)
		}
		p.again()
		p.lists(versions, many(90000, rest)...)
		p.leads(7, versions-1, last)
	}
}

// P15.5: as many versions as a store has room for; the next one finds none, and the hub goes on.
func TestFullOfVersions(t *testing.T) {
	p := opened(t, plain())
	last := 0
	for n := 1; ; n++ {
		if e := p.gotDown(p.made(delta(n, "", ""))); e != api.OK {
			if e != api.ErrFull {
				t.Fatal(e)
			}
			break
		}
		last = n
	}
	if want := (50124 - 18) / 26; last != want {
		t.Errorf("%d versions, not %d", last, want)
	}
	p.again()
	p.lists(last)
	p.leads(7, last-1, deltaWith(last, "", ""))
	p.down(delta(last+1, "", ""), api.ErrFull)
	p.ticks(last)
}

// P15.5, W4: which error it is where several would fit: that of a dead hub, of the seal, of the frame's form, of its number.
func TestWhichErrorOfGotDown(t *testing.T) {
	p := opened(t, limited(3)).fill(2)
	spoilt := p.made(ack(9))
	spoilt[3]++
	nothing := slowSeal("another secret", nil)
	for _, x := range [][]byte{spoilt, nothing} {
		if e := p.gotDown(x); e != api.ErrLinkSeal {
			t.Errorf("%d", e)
		}
	}
	p.hand.Arm(1, true)
	p.down(ack(1), api.ErrDown)
	for _, x := range [][]byte{spoilt, nothing, nil, p.made(ack(1)), p.made(ack(9)), p.made(have(0)), p.made(delta(1, "a", "")), p.made(delta(7, "a", "")), p.made(api.Frame{Kind: api.FrameDelta})} {
		if e := p.gotDown(x); e != api.ErrHubDead {
			t.Errorf("%d", e)
		}
	}
}

// P15.5: any bytes of the office, under the right seal or without, do what the slow hub does.
func FuzzGotDown(f *testing.F) {
	for _, x := range []api.Frame{ack(1), ack(9), have(1), delta(2, "a", "b"), delta(2, "", ""), items(1, 1, "a"), {Kind: api.FrameDelta, Bytes: []byte("x")}} {
		made := madeWith(&testing.T{}, slowSecret("k", 20), x)
		f.Add(made[:len(made)-16], true)
		f.Add(made, false)
	}
	f.Fuzz(func(t *testing.T, x []byte, sealed bool) {
		p := opened(t, limited(3)).fill(3)
		p.down(delta(1, "b", ""), api.OK)
		if sealed {
			x = slowSeal(p.slow.secret(20), x)
		}
		p.gotDown(x)
		p.again()
	})
}

// P15.3 to P15.6: any calls with power, over many Opens and losses of power, against the slow hub.
func TestCallsAgainstTheSlowHub(t *testing.T) {
	t.Parallel()
	rnd := rand.New(rand.NewSource(156))
	for range 40 {
		s := api.Hub{Number: 1000 + rnd.Intn(60000), Secret: "secret", Limit: 1 + rnd.Intn(12), Gates: numbers(1 + rnd.Intn(5))}
		p := opened(t, s)
		for range 150 {
			gate := s.Gates[rnd.Intn(len(s.Gates))]
			switch rnd.Intn(12) {
			case 0:
				p.again()
			case 1:
				p.loses()
			case 2, 3:
				p.tick()
			case 4:
				p.gotDown(p.made(deltaOf(someDelta(rnd, p.hub.Risk()))))
			case 5:
				p.gets(gate, have(rnd.Intn(p.hub.Risk().Version+2)))
			case 6, 7:
				p.gotDown(p.made(ack(max(0, p.slow.last-rnd.Intn(6)+1))))
			default:
				next := max(1, p.slow.next[gate])
				base := 1 + rnd.Intn(next+1)
				seq := max(base, next+rnd.Intn(5)-3)
				p.gets(gate, items(base, seq, sayings(gate, seq, 1+rnd.Intn(8))...))
			}
		}
	}
}

// sayings are so many items of a gate, from a number on.
func sayings(gate, from, n int) []string {
	var l []string
	for i := range n {
		l = append(l, fmt.Sprint(gate, "/", from+i))
	}
	return l
}
