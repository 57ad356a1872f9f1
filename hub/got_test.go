package hub_test

import (
	"bytes"
	"encoding/binary"
	"fmt"
	"math"
	"math/rand"
	"slices"
	"testing"

	"farebox/api"
)

// P15.3, P15.5: the chapter's examples.
func TestExamples(t *testing.T) {
	p := opened(t, plain())
	f := items(1, 1, "a", "b", "c")
	p.takes(7, f, 2)
	p.waits(1, "a", "b")
	p.takes(7, f, 2)
	p.refuses(9, f, api.ErrHubGate)
	p.refusesBytes(8, madeWith(t, slowSecret("k", 7), f), api.ErrLinkSeal)
	p.down(ack(2), api.OK)
	p.takes(7, f, 3)
	p.waits(3, "c")
	p.leads(7, 0, api.Delta{})
	p.down(delta(1, "a", ""), api.OK)
	p.leads(7, 0, deltaWith(1, "a", ""))
}

// P15.3: frames of which all, some and none come next, of a receiver that knows nothing, and of one that took some.
func TestItemsThatComeNext(t *testing.T) {
	for _, x := range []struct {
		base, seq, many int
		from, to        int // those that are taken; from 0: none
		ack             int
	}{
		{1, 1, 1, 0, 0, 5}, {1, 1, 5, 0, 0, 5}, {1, 5, 1, 0, 0, 5}, {5, 5, 1, 0, 0, 5},
		{1, 1, 6, 6, 6, 6}, {1, 3, 8, 6, 10, 10}, {1, 5, 2, 6, 6, 6}, {1, 6, 1, 6, 6, 6}, {1, 6, 8, 6, 13, 13}, {6, 6, 3, 6, 8, 8},
		{1, 7, 1, 0, 0, 5}, {1, 9, 8, 0, 0, 5}, {6, 7, 2, 0, 0, 5},
		{7, 7, 2, 7, 8, 8}, {7, 8, 1, 0, 0, 6}, {9, 9, 1, 9, 9, 9}, {9, 20, 1, 0, 0, 8}, {1000, 1000, 2, 1000, 1001, 1001}, {1000, 1001, 2, 0, 0, 999},
	} {
		p := opened(t, limited(30)).fill(5)
		p.takes(7, items(x.base, x.seq, words(x.seq, x.many)...), x.ack)
		want := words(1, 5)
		if x.from > 0 {
			want = append(want, words(x.from, x.to-x.from+1)...)
		}
		p.waits(1, want...)
		p.again()
		p.waits(1, want...)
	}
	for _, x := range []struct{ base, seq, many, took, ack int }{{1, 1, 3, 3, 3}, {1, 2, 3, 0, 0}, {2, 2, 3, 3, 4}, {5, 7, 1, 0, 4}, {9, 9, 8, 8, 16}, {api.MaxCounter, api.MaxCounter, 1, 1, api.MaxCounter}, {api.MaxCounter - 1, api.MaxCounter, 1, 0, api.MaxCounter - 2}} {
		p := opened(t, limited(30))
		p.takes(7, items(x.base, x.seq, words(x.seq, x.many)...), x.ack)
		p.waits(1, words(x.seq, x.took)...)
	}
}

// P15.3: a queue that takes all, some and none of the items that come next; what it did not take comes again, and is taken then.
func TestItemsThatTheQueueTakes(t *testing.T) {
	for limit := 1; limit <= 12; limit++ {
		for there := 0; there <= limit; there++ {
			for n := 1; n <= 8; n++ {
				p := opened(t, limited(limit))
				for i := range there {
					p.takes(8, items(1, i+1, "x"), i+1)
				}
				took := min(n, limit-there)
				f := items(4, 4, words(4, n)...)
				p.takes(7, f, 3+took)
				want := append(slices.Repeat([]string{"x"}, there), words(4, took)...)
				p.waits(1, want...)
				p.takes(7, f, 3+took)
				p.waits(1, want...)
				p.down(ack(there+took), api.OK)
				p.takes(7, f, 3+took+min(n-took, limit))
				p.waits(there+took+1, words(4+took, min(n-took, limit))...)
			}
		}
	}
}

// P15.3: items up to the last number that a queue has; behind it none is taken, though there is room.
func TestItemsAtTheLastNumber(t *testing.T) {
	for less := range 4 {
		p := near(t, limited(9), less)
		took := min(less, 3)
		p.takes(7, items(1, 1, "a", "b", "c"), took)
		p.waits(api.MaxCounter-less+1, []string{"a", "b", "c"}[:took]...)
		p.takes(7, items(1, 1, "a", "b", "c"), took)
		p.down(ack(api.MaxCounter-less+took), api.OK)
		p.waits(api.MaxCounter - less + took + 1)
		p.takes(8, items(5, 5, "d"), 4+min(1, less-took))
		p.again()
		p.takes(7, items(1, 1, "e"), min(1, max(0, less-took-1)))
	}
}

// P15.3: the same frame again, late ones, mixed up ones: each item once, in order.
func TestItemsMixedUp(t *testing.T) {
	p := opened(t, limited(20))
	p.takes(7, items(1, 5, "e"), 0)
	p.takes(7, items(1, 3, "c", "d"), 0)
	p.takes(7, items(1, 1, "a", "b"), 2)
	p.takes(7, items(1, 5, "e"), 2)
	p.takes(7, items(1, 1, "a", "b"), 2)
	p.takes(7, items(1, 3, "c", "d"), 4)
	p.takes(7, items(1, 3, "c", "d"), 4)
	p.takes(7, items(3, 4, "d", "e", "f"), 6)
	p.takes(7, items(1, 1, "a"), 6)
	p.waits(1, "a", "b", "c", "d", "e", "f")
	p.again()
	p.waits(1, "a", "b", "c", "d", "e", "f")
}

// P15.3: gates with the same numbers, each with a receiver of its own; their items stand in one queue as they came.
func TestItemsOfTwoGates(t *testing.T) {
	p := opened(t, limited(20))
	p.takes(7, items(1, 1, "a", "b"), 2)
	p.takes(8, items(1, 1, "A"), 1)
	p.takes(8, items(9, 10, "J"), 8)
	p.takes(7, items(1, 3, "c"), 3)
	p.takes(8, items(9, 9, "I", "J"), 10)
	p.takes(7, items(9, 9, "i"), 9)
	p.waits(1, "a", "b", "A", "c", "I", "J", "i")
	p.refusesBytes(7, madeWith(t, slowSecret("k", 8), items(10, 10, "j")), api.ErrLinkSeal)
	p.refusesBytes(8, madeWith(t, slowSecret("k", 7), items(11, 11, "k")), api.ErrLinkSeal)
	p.waits(1, "a", "b", "A", "c", "I", "J", "i")
}

// P15.3: all gates that there may be; each is answered under its own secret.
func TestItemsOfManyGates(t *testing.T) {
	s := api.Hub{Number: 17, Secret: "many", Limit: 50}
	for n := 1; n <= 16; n++ {
		s.Gates = append(s.Gates, n)
	}
	p := opened(t, s)
	p.down(delta(1, "a", ""), api.OK)
	var want []string
	for round := 1; round <= 3; round++ {
		for n := 16; n >= 1; n-- {
			x := fmt.Sprint("gate ", n, ", item ", round)
			p.takes(n, items(1, round, x), round)
			p.leads(n, 0, deltaWith(1, "a", ""))
			want = append(want, x)
		}
	}
	p.waits(1, want...)
}

// P15.3: items of any size, and what looks like anything.
func TestItemsOfAnyBytes(t *testing.T) {
	p := opened(t, limited(8))
	l := []string{"", "\x00", string(make([]byte, 255)), string(bytes.Repeat([]byte{255}, 256)), "FBQU", string(p.made(ack(1))), "", "x"}
	p.takes(7, items(1, 1, l...), 8)
	p.waits(1, l...)
	p.loses()
	p.waits(1, l...)
}

// P15.3: the items of a frame are made safe together, ahead of the answer; where none is taken nothing is done.
func TestItemsAreSafe(t *testing.T) {
	p := opened(t, limited(9))
	f := items(1, 1, "a", "b", "c")
	p.takes(7, f, 3)
	if p.hand.Waiting() != 0 {
		t.Errorf("%d writes wait", p.hand.Waiting())
	}
	p.hand.Arm(0, false)
	for range 5 {
		p.takes(7, f, 3)
		p.takes(7, items(1, 5, "e"), 3)
		p.takes(8, items(4, 6, "f"), 3)
		p.leads(7, 0, api.Delta{})
		p.refuses(7, ack(1), api.ErrLinkForm)
		p.refuses(9, f, api.ErrHubGate)
	}
	if p.hand.Down() {
		t.Error("there was an act")
	}
	p.refuses(7, items(1, 4, "d"), api.ErrDown)
	p.loses()
	p.waits(1, "a", "b", "c")
	full := opened(t, limited(3))
	full.takes(7, f, 3)
	full.hand.Arm(0, false)
	full.takes(7, items(1, 4, "d"), 3)
	full.takes(8, items(1, 1, "d"), 0)
	if full.hand.Down() {
		t.Error("there was an act")
	}
}

// P15.2, P15.3: behind an Open the receivers know nothing: what comes then is taken from its base on, also what was taken ahead of it.
func TestReceiversBehindOpen(t *testing.T) {
	p := opened(t, limited(20))
	p.takes(7, items(1, 1, "a", "b", "c"), 3)
	p.again()
	p.takes(7, items(1, 3, "c"), 0)
	p.takes(7, items(1, 1, "a", "b", "c"), 3)
	p.waits(1, "a", "b", "c", "a", "b", "c")
	p.loses()
	p.takes(7, items(4, 4, "d"), 4)
	p.takes(8, items(1, 2, "b"), 0)
	p.waits(1, "a", "b", "c", "a", "b", "c", "d")
}

// P15.3: FrameHave below, at and above the list's version.
func TestHave(t *testing.T) {
	p := opened(t, plain())
	steps := []api.Delta{deltaWith(1, "b", ""), deltaWith(2, "ac", ""), deltaWith(3, "", ""), deltaWith(4, "d", "ab"), deltaWith(5, "", "cd")}
	for n := 0; n <= len(steps); n++ {
		for i := range 2 {
			for version := range n {
				p.leads(7+i, version, steps[version])
			}
			for _, version := range []int{n, n + 1, n + 2, 255, 256, api.MaxRuns - 1, api.MaxRuns} {
				p.leads(7+i, version, api.Delta{})
			}
			p.again()
		}
		if n < len(steps) {
			p.down(deltaOf(steps[n]), api.OK)
		}
	}
	p.waits(1)
}

// P15.3: the greatest delta goes down, too.
func TestHaveOfGreatDeltas(t *testing.T) {
	p := opened(t, plain())
	steps := []api.Delta{{Version: 1, Add: many(0, 1000)}, {Version: 2, Add: many(1000, 1000), Gone: many(0, 1000)}}
	for _, d := range steps {
		p.down(deltaOf(d), api.OK)
	}
	p.leads(8, 0, steps[0])
	p.leads(7, 1, steps[1])
	p.loses()
	p.leads(7, 0, steps[0])
	p.leads(8, 1, steps[1])
	p.leads(8, 2, api.Delta{})
}

// P15.9: a gate of any version gets, delta by delta, just the hub's list.
func TestGatesOfAnyVersion(t *testing.T) {
	rnd := rand.New(rand.NewSource(151))
	p := opened(t, plain())
	lists := [][]string{nil}
	for version := 1; version <= 300; version++ {
		p.down(deltaOf(someDelta(rnd, p.hub.Risk())), api.OK)
		lists = append(lists, p.hub.Risk().Tokens)
		if version%50 == 0 {
			p.again()
		}
	}
	for from := 0; from <= 300; from += 30 {
		tokens := map[string]int{}
		for _, token := range lists[from] {
			tokens[token] = 1
		}
		for version := from; version < 300; version++ {
			p.follows(7+version%2, version, tokens)
		}
		var l []string
		for token := range tokens {
			l = append(l, token)
		}
		slices.Sort(l)
		if !slices.Equal(l, p.hub.Risk().Tokens) {
			t.Fatalf("from the version %d on: %q", from, l)
		}
	}
}

// follows carries the delta that a gate of some version gets out, on its tokens. (It asks the hub alone, for the sake of time.)
func (p *both) follows(gate, version int, tokens map[string]int) {
	p.t.Helper()
	l, err := p.hub.Got(gate, slowSeal(p.slow.secret(gate), binary.BigEndian.AppendUint64([]byte{3}, uint64(version))))
	if len(l) != 1 || err != nil {
		p.t.Fatalf("the version %d: %d frames, %v", version, len(l), err)
	}
	b := l[0][3:]
	if got := binary.BigEndian.Uint64(b); got != uint64(version+1) {
		p.t.Fatalf("the version %d behind %d", got, version)
	}
	b = b[8:]
	for _, by := range []int{1, 0} {
		n := int(binary.BigEndian.Uint16(b))
		for i := range n {
			token := string(b[2+8*i : 10+8*i])
			if tokens[token] == by {
				p.t.Fatalf("the version %d: %q is there already, or is not", version+1, token)
			}
			if tokens[token] = by; by == 0 {
				delete(tokens, token)
			}
		}
		b = b[2+8*n:]
	}
}

// someDelta leads on from a list by few tokens, or none.
func someDelta(rnd *rand.Rand, l api.RiskList) api.Delta {
	d := api.Delta{Version: l.Version + 1}
	for _, token := range many(0, 12) {
		if rnd.Intn(4) > 0 {
			continue
		}
		if slices.Contains(l.Tokens, token) {
			d.Gone = append(d.Gone, token)
		} else {
			d.Add = append(d.Add, token)
		}
	}
	return d
}

// P15.3: FrameAck and FrameDelta are nothing that a gate sends.
func TestOtherFramesOfGates(t *testing.T) {
	p := opened(t, limited(9)).fill(3)
	p.down(delta(1, "a", ""), api.OK)
	for _, f := range []api.Frame{ack(0), ack(1), ack(3), ack(4), ack(api.MaxCounter), delta(1, "a", ""), delta(2, "b", ""), {Kind: api.FrameDelta}} {
		p.refuses(7, f, api.ErrLinkForm)
		p.refuses(8, f, api.ErrLinkForm)
	}
	p.waits(1, words(1, 3)...)
	p.lists(1, tokens("a")...)
}

// noFrames are bytes that no frame has.
func noFrames() [][]byte {
	right := binary.BigEndian.AppendUint64([]byte{2}, 1)
	return [][]byte{nil, {0}, {1}, {2}, {3}, {5}, {255}, right[:8], append(bytes.Clone(right), 0), binary.BigEndian.AppendUint64([]byte{2}, api.MaxCounter+1), binary.BigEndian.AppendUint64([]byte{2}, math.MaxUint64), binary.BigEndian.AppendUint64([]byte{3}, api.MaxRuns+1), {4}, {4, 0}, {4, 0, 2, 1}, {4, 0, 0, 0}, append([]byte{4, 0x3e, 0xe5}, make([]byte, 16101)...),
		rawItems(0, 1, 1, 0, 1, 'a'), rawItems(2, 1, 1, 0, 1, 'a'), rawItems(1, 1, 0), rawItems(1, 1, 9, make([]byte, 18)...), rawItems(1, 1, 1, 0, 2, 'a'), rawItems(1, 1, 1, 0, 1, 'a', 'b'), rawItems(1, api.MaxCounter, 2, 0, 0, 0, 0), rawItems(1, 1, 1, append([]byte{1, 1}, make([]byte, 257)...)...)}
}

func rawItems(base, seq, many int, rest ...byte) []byte {
	b := binary.BigEndian.AppendUint64([]byte{1}, uint64(base))
	b = binary.BigEndian.AppendUint64(b, uint64(seq))
	return append(binary.BigEndian.AppendUint16(b, uint16(many)), rest...)
}

// P15.3: bytes that are no frame, under the right seal.
func TestNoFramesOfGates(t *testing.T) {
	p := opened(t, limited(9)).fill(2)
	for _, x := range noFrames() {
		p.refusesBytes(7, slowSeal(p.slow.secret(7), x), api.ErrLinkForm)
	}
	p.waits(1, words(1, 2)...)
	p.takes(7, items(1, 3, "c"), 3)
}

// P15.3: frames with another seal: of other nodes and secrets, spoilt in any byte, cut off, longer, none at all.
func TestOtherSealsOfGates(t *testing.T) {
	p := opened(t, limited(9)).fill(2)
	for _, f := range []api.Frame{items(1, 3, "c"), items(1, 1, "a", "b"), have(0), ack(1), delta(1, "a", "")} {
		for _, secret := range []string{"", "k", slowKey("k", 7), slowSecret("k", 8), slowSecret("k", 20), slowSecret("k", 0), slowSecret("l", 7), slowKey("k", 0)} {
			p.refusesBytes(7, madeWith(t, secret, f), api.ErrLinkSeal)
		}
		right := madeWith(t, slowSecret("k", 7), f)
		for at := range right {
			for _, by := range []byte{1, 128, 255} {
				x := bytes.Clone(right)
				x[at] ^= by
				p.refusesBytes(7, x, api.ErrLinkSeal)
			}
			p.refusesBytes(7, right[:at], api.ErrLinkSeal)
		}
		p.refusesBytes(7, append(bytes.Clone(right), 0), api.ErrLinkSeal)
		p.refusesBytes(7, slices.Concat(right, right), api.ErrLinkSeal)
	}
	p.refusesBytes(7, nil, api.ErrLinkSeal)
	p.refusesBytes(7, make([]byte, 100), api.ErrLinkSeal)
	for _, x := range p.tick() {
		p.refusesBytes(7, x, api.ErrLinkSeal)
	}
	p.waits(1, words(1, 2)...)
}

// P15.3: a hub has the gates of its set-up, and no others.
func TestGatesThatThereAreNot(t *testing.T) {
	p := opened(t, plain())
	for _, gate := range []int{math.MinInt, -7, -1, 0, 1, 6, 9, 20, 65535, 65536, 65536 + 7, 1<<32 + 7, 1<<32 + 8, math.MaxInt} {
		p.refusesBytes(gate, madeWith(t, slowSecret("k", gate&65535), items(1, 1, "a")), api.ErrHubGate)
		p.refusesBytes(gate, madeWith(t, slowSecret("k", 7), items(1, 1, "a")), api.ErrHubGate)
		p.refusesBytes(gate, nil, api.ErrHubGate)
	}
	p.waits(1)
}

// P15.3, W4: which error it is where several would fit: that of a dead hub, of the gate, of the seal, of the frame's form, of its kind.
func TestWhichErrorOfGot(t *testing.T) {
	p := opened(t, plain())
	spoilt := madeWith(t, slowSecret("k", 7), ack(1))
	spoilt[3]++
	wrong := append(noFrames(), spoilt, madeWith(t, "x", ack(1)), p.made(delta(1, "a", "")))
	for _, x := range wrong {
		p.refusesBytes(9, x, api.ErrHubGate)
		p.refusesBytes(9, slowSeal(slowSecret("k", 9), x), api.ErrHubGate)
		p.refusesBytes(7, x, api.ErrLinkSeal)
		p.refusesBytes(7, slowSeal(slowSecret("k", 8), x), api.ErrLinkSeal)
	}
	p.hand.Arm(0, false)
	p.refuses(7, items(1, 1, "a"), api.ErrDown)
	for _, gate := range []int{7, 8, 9, -1} {
		for _, x := range append(wrong, madeWith(t, slowSecret("k", 7), items(1, 1, "a")), slowSeal(slowSecret("k", 7), nil)) {
			p.refusesBytes(gate, x, api.ErrHubDead)
		}
	}
}

// P15.3: any bytes of a gate, under the right seal or without, do what the slow hub does.
func FuzzGot(f *testing.F) {
	for _, x := range []api.Frame{items(1, 3, "c"), items(1, 1, "a", "b", "c", "d", "e"), items(5, 5, "e"), have(0), have(1), ack(1), delta(2, "a", "")} {
		made := madeWith(&testing.T{}, slowSecret("k", 7), x)
		f.Add(made[:len(made)-16], true, 7)
		f.Add(made, false, 7)
		f.Add(made, false, 8)
	}
	f.Fuzz(func(t *testing.T, x []byte, sealed bool, gate int) {
		p := opened(t, limited(4)).fill(2)
		p.down(delta(1, "b", ""), api.OK)
		if sealed {
			x = slowSeal(p.slow.secret(gate), x)
		}
		p.got(gate, x)
		p.again()
	})
}
