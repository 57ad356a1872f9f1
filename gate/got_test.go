package gate_test

import (
	"bytes"
	"encoding/binary"
	"math"
	"slices"
	"testing"

	"farebox/api"
)

// P14.5: FrameAck below, at and above Counter, of a gate of which some were let go, and of one without items.
func TestAcks(t *testing.T) {
	for n := range 12 {
		p := with(t, 9, 9)
		p.gets(ack(3), api.OK)
		want, first := api.OK, max(n, 3)+1
		if n > 9 {
			want, first = api.ErrArg, 4
		}
		p.gets(ack(n), want)
		p.stands(first, 9, 0)
		p.gets(ack(n), want)
		p.stands(first, 9, 0)
		p.loses()
		p.stands(first, 9, 0)
	}
	p := opened(t, plain())
	p.gets(ack(0), api.OK)
	for _, n := range []int{1, 2, 1 << 16, api.MaxCounter} {
		p.gets(ack(n), api.ErrArg)
	}
	p.stands(1, 0, 0)
	p = near(t, plain(), 1)
	p.gets(ack(api.MaxCounter), api.ErrArg)
	p.presents(a, 5, api.VerdictAccepted)
	p.gets(ack(0), api.OK)
	p.gets(ack(api.MaxCounter-1), api.OK)
	p.stands(api.MaxCounter, api.MaxCounter, 0)
	p.gets(ack(api.MaxCounter), api.OK)
	p.stands(api.MaxCounter+1, api.MaxCounter, 0)
}

// P14.5: what lets nothing go, or is refused, is no act.
func TestGotWithoutActs(t *testing.T) {
	p := with(t, 9, 5)
	p.gets(ack(2), api.OK)
	p.gets(delta(1, "a", ""), api.OK)
	p.hand.Arm(0, false)
	for range 100 {
		p.gets(ack(0), api.OK)
		p.gets(ack(1), api.OK)
		p.gets(ack(2), api.OK)
		p.gets(ack(6), api.ErrArg)
		p.gets(have(0), api.ErrLinkForm)
		p.gets(delta(1, "a", ""), api.ErrRiskVersion)
		p.gets(delta(2, "a", ""), api.ErrRiskToken)
	}
	if p.hand.Down() {
		t.Error("there was an act")
	}
	p.gets(ack(3), api.ErrDown)
}

// P14.5: FrameItems and FrameHave are nothing for a gate.
func TestOtherFrames(t *testing.T) {
	p := with(t, 3, 2)
	for _, f := range []api.Frame{have(0), have(1), have(api.MaxRuns), {Kind: api.FrameItems, Base: 1, Seq: 1, Items: [][]byte{tap(1, a, 5)}}, {Kind: api.FrameItems, Base: 3, Seq: 3, Items: [][]byte{nil, nil}}} {
		p.gets(f, api.ErrLinkForm)
	}
	for _, x := range p.tick() {
		if e := p.got(x); e != api.ErrLinkForm {
			t.Errorf("a frame of its own: %d", e)
		}
	}
}

// P14.5: bytes that are no frame, under the right seal.
func TestNoFrames(t *testing.T) {
	p := with(t, 3, 2)
	right, _ := cut(p.made(ack(1)))
	for _, x := range [][]byte{nil, {0}, {2}, {5}, {255}, right[:8], append(bytes.Clone(right), 0), binary.BigEndian.AppendUint64([]byte{2}, api.MaxCounter+1), binary.BigEndian.AppendUint64([]byte{2}, math.MaxUint64), binary.BigEndian.AppendUint64([]byte{3}, api.MaxRuns+1), {4}, {4, 0}, {4, 0, 2, 1}, {4, 0, 0, 0}, append([]byte{4, 0x3e, 0xe5}, make([]byte, 16101)...)} {
		if e := p.got(slowSeal(p.slow.secret(), x)); e != api.ErrLinkForm {
			t.Errorf("%.20v: %d", x, e)
		}
	}
	p.stands(1, 2, 0)
}

// cut parts a frame's bytes from its seal.
func cut(x []byte) ([]byte, []byte) { return x[:len(x)-16], x[len(x)-16:] }

// P14.5: frames with another seal: of other secrets, spoilt in any byte, cut off, longer, none at all.
func TestOtherSeals(t *testing.T) {
	p := with(t, 3, 2)
	refuses := func(what string, x []byte) {
		t.Helper()
		if e := p.got(x); e != api.ErrLinkSeal {
			t.Fatalf("%s: %d", what, e)
		}
	}
	for _, f := range []api.Frame{ack(1), ack(9), have(0), delta(1, "a", ""), {Kind: api.FrameDelta}} {
		right := p.made(f)
		for _, secret := range []string{"", "k", slowKey("k", 7), slowSecret("k", 8), slowSecret("k", 0), slowSecret("l", 7), slowKey("k", 0)} {
			refuses("another secret's", madeWith(t, secret, f))
		}
		for at := range right {
			for _, by := range []byte{1, 128, 255} {
				x := bytes.Clone(right)
				x[at] ^= by
				refuses("spoilt", x)
			}
			refuses("cut off", right[:at])
		}
		refuses("longer", append(bytes.Clone(right), 0))
		refuses("twice", slices.Concat(right, right))
	}
	refuses("none", nil)
	refuses("noughts", make([]byte, 100))
	refuses("an item", p.gate.Waiting(1)[0].Bytes)
	p.stands(1, 2, 0)
}

// P14.5: deltas, version by version; the list lasts.
func TestDeltas(t *testing.T) {
	p := opened(t, plain())
	for i, x := range []struct{ add, gone, want string }{{"b", "", "b"}, {"ac", "", "abc"}, {"", "", "abc"}, {"d", "ab", "cd"}, {"", "cd", ""}, {"", "", ""}, {"abcd", "", "abcd"}, {"efgh", "abcd", "efgh"}} {
		p.gets(delta(i+1, x.add, x.gone), api.OK)
		p.stands(1, 0, i+1, tokens(x.want)...)
		if i%2 == 0 {
			p.loses()
		} else {
			p.again()
		}
		p.stands(1, 0, i+1, tokens(x.want)...)
	}
}

// P14.5: each error of risk.Apply, and bytes that are no delta; the first one is told, and nothing has changed.
func TestDeltasThatMayNotBe(t *testing.T) {
	p := opened(t, plain())
	p.gets(delta(1, "b", ""), api.OK)
	p.gets(deltaOf(api.Delta{Version: 2, Add: many(0, 998)}), api.OK)
	raw := func(what string, want api.Errno, x []byte) {
		t.Helper()
		if e := p.got(p.made(api.Frame{Kind: api.FrameDelta, Bytes: x})); e != want {
			t.Errorf("%s: %d, not %d", what, e, want)
		}
	}
	next := []byte(bytesOf(api.Delta{Version: 3, Add: tokens("ac")}))
	spoil := func(at int, by byte) []byte {
		x := bytes.Clone(next)
		x[at] = by
		return x
	}
	raw("nothing", api.ErrRecord, nil)
	raw("a byte", api.ErrRecord, []byte("x"))
	raw("one byte less", api.ErrRecord, next[:len(next)-1])
	raw("one byte more", api.ErrRecord, append(bytes.Clone(next), 0))
	raw("tokens that fall", api.ErrRecord, spoil(10, 'z'))
	raw("a token twice", api.ErrRecord, slices.Concat(next[:18], next[10:18], next[26:]))
	raw("a version below 0", api.ErrRecord, spoil(0, 128))
	raw("the version 0", api.ErrRecord, spoil(7, 0))
	raw("a token in both", api.ErrRecord, slices.Concat(next[:26], []byte{0, 1}, next[10:18]))
	raw("too many", api.ErrRecord, spoil(8, 255))
	raw("the version 3, twice over", api.ErrRecord, slices.Concat(next, next))
	for _, version := range []int{1, 2, 4, 5, 259, math.MaxInt} {
		p.gets(delta(version, "a", ""), api.ErrRiskVersion)
		p.gets(delta(version, "b", "a"), api.ErrRiskVersion)
		p.gets(delta(version, "acdef", ""), api.ErrRiskVersion)
	}
	for _, f := range []api.Frame{delta(3, "b", ""), delta(3, "ab", ""), delta(3, "", "a"), delta(3, "", "ab"), delta(3, "b", "a"), delta(3, "abcdef", ""), delta(3, "acdef", "g")} {
		p.gets(f, api.ErrRiskToken)
	}
	p.gets(delta(3, "ac", ""), api.ErrLong)
	p.gets(delta(3, "acd", "b"), api.ErrLong)
	p.stands(1, 0, 2, append(many(0, 998), b)...)
	p.gets(delta(3, "ac", "b"), api.OK)
	p.stands(1, 0, 3, append(many(0, 998), a, c)...)
}

// P14.5: the greatest deltas, again and again: a store has room for every list.
func TestGreatLists(t *testing.T) {
	p := opened(t, plain())
	p.gets(deltaOf(api.Delta{Version: 1, Add: many(0, 1000)}), api.OK)
	for n := range 20 {
		p.gets(deltaOf(api.Delta{Version: n + 2, Add: many(1000*(n+1), 1000), Gone: many(1000*n, 1000)}), api.OK)
		if n%3 == 0 {
			p.loses()
		}
		p.stands(1, 0, n+2, many(1000*(n+1), 1000)...)
	}
	p.gets(deltaOf(api.Delta{Version: 22, Gone: many(20000, 1000)}), api.OK)
	p.loses()
	p.stands(1, 0, 22)
}

// P14.5: behind the last version there is none.
func TestTheLastVersion(t *testing.T) {
	p := versioned(t, math.MaxInt-1)
	p.gets(delta(math.MaxInt, "b", ""), api.OK)
	p.gets(delta(math.MaxInt, "c", ""), api.ErrRiskVersion)
	p.gets(delta(1, "c", ""), api.ErrRiskVersion)
	p.loses()
	p.stands(1, 0, math.MaxInt, a, b)
}

// P14.5, W4: which error it is where several would fit: that of a dead gate, of the seal, of the frame's form, of its number.
func TestWhichErrorOfGot(t *testing.T) {
	p := with(t, 3, 2)
	spoilt := p.made(ack(9))
	spoilt[3]++
	nothing := slowSeal("another secret", nil)
	for _, x := range [][]byte{spoilt, nothing} {
		if e := p.got(x); e != api.ErrLinkSeal {
			t.Errorf("%d", e)
		}
	}
	p.hand.Arm(1, true)
	p.gets(ack(1), api.ErrDown)
	for _, x := range [][]byte{spoilt, nothing, nil, p.made(ack(1)), p.made(ack(9)), p.made(have(0)), p.made(delta(1, "a", "")), p.made(delta(7, "a", "")), p.made(api.Frame{Kind: api.FrameDelta})} {
		if e := p.got(x); e != api.ErrGateDead {
			t.Errorf("%d", e)
		}
	}
}

// P14.5: any bytes, under the right seal or without, do what the slow gate does.
func FuzzGot(f *testing.F) {
	for _, x := range []api.Frame{ack(1), ack(9), have(1), delta(2, "a", "b"), delta(2, "", ""), {Kind: api.FrameDelta, Bytes: []byte("x")}} {
		body, _ := cut(madeWith(&testing.T{}, slowSecret("k", 7), x))
		f.Add(body, true)
		f.Add(madeWith(&testing.T{}, slowSecret("k", 7), x), false)
	}
	f.Fuzz(func(t *testing.T, x []byte, sealed bool) {
		p := with(t, 3, 3)
		p.gets(delta(1, "b", ""), api.OK)
		if sealed {
			x = slowSeal(p.slow.secret(), x)
		}
		p.got(x)
		p.again()
	})
}
