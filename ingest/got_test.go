package ingest_test

import (
	"bytes"
	"encoding/binary"
	"fmt"
	"math"
	"slices"
	"strings"
	"testing"

	"farebox/api"
)

// P16.2, P16.4: the chapter's examples.
func TestExamples(t *testing.T) {
	p := opened(t, plain(), 100)
	x := api.Tap{Device: 7, Counter: 1, Token: "aaaaaaaa", Kind: 1, Place: 3, Time: 100}
	f := frame(1, 1, sealed(x), sealed(x), []byte{9})
	p.takes(20, f, 3)
	p.has(x)
	p.putAside([]byte{9})
	p.takes(20, f, 3)
	p.refuses(21, f, api.ErrIngestHub)
	p.refuses(20, api.Frame{Kind: api.FrameHave}, api.ErrLinkForm)
	p.has(x)
	p.putAside([]byte{9})
	p.loses()
	p.takes(20, f, 3)
	p.has(x)
	p.putAside([]byte{9}, []byte{9})
}

// words are so many items that are bad, each its own, from a number on.
func words(from, n int) [][]byte {
	var l [][]byte
	for i := range n {
		l = append(l, fmt.Append(nil, "item ", from+i))
	}
	return l
}

// P16.2: frames of which all, some and none come next, of a receiver that knows nothing, and of one that took some.
func TestItemsThatComeNext(t *testing.T) {
	for _, x := range []struct {
		base, seq, many int
		from, to        int // those that are taken; from 0: none
		ack             int
	}{
		{1, 1, 1, 0, 0, 5}, {1, 1, 5, 0, 0, 5}, {1, 5, 1, 0, 0, 5}, {5, 5, 1, 0, 0, 5},
		{1, 1, 6, 6, 6, 6}, {1, 3, 8, 6, 10, 10}, {1, 5, 2, 6, 6, 6}, {1, 6, 1, 6, 6, 6}, {1, 6, 8, 6, 13, 13}, {6, 6, 3, 6, 8, 8},
		{1, 7, 1, 0, 0, 5}, {1, 9, 8, 0, 0, 5}, {6, 7, 2, 0, 0, 5},
		{7, 7, 2, 7, 8, 8}, {7, 8, 1, 0, 0, 6}, {9, 9, 1, 9, 9, 9}, {9, 20, 1, 0, 0, 8}, {1000, 1000, 2, 1000, 1001, 1001}, {1000, 1001, 2, 0, 0, 999},
	} {
		p := opened(t, plain(), 20)
		p.sends(words(1, 5)...)
		p.takes(20, frame(x.base, x.seq, words(x.seq, x.many)...), x.ack)
		want := words(1, 5)
		if x.from > 0 {
			want = append(want, words(x.from, x.to-x.from+1)...)
		}
		p.putAside(want...)
		p.again()
	}
	for _, x := range []struct{ base, seq, many, took, ack int }{{1, 1, 3, 3, 3}, {1, 2, 3, 0, 0}, {2, 2, 3, 3, 4}, {5, 7, 1, 0, 4}, {9, 9, 8, 8, 16}, {api.MaxCounter, api.MaxCounter, 1, 1, api.MaxCounter}, {api.MaxCounter - 1, api.MaxCounter, 1, 0, api.MaxCounter - 2}} {
		p := opened(t, plain(), 20)
		p.takes(20, frame(x.base, x.seq, words(x.seq, x.many)...), x.ack)
		p.putAside(words(x.seq, x.took)...)
	}
}

// P16.2: the same frame again, late ones, mixed up ones: each item once, in order.
func TestItemsMixedUp(t *testing.T) {
	p := opened(t, plain(), 20)
	l := words(1, 6)
	p.takes(20, frame(1, 5, l[4]), 0)
	p.takes(20, frame(1, 3, l[2], l[3]), 0)
	p.takes(20, frame(1, 1, l[0], l[1]), 2)
	p.takes(20, frame(1, 5, l[4]), 2)
	p.takes(20, frame(1, 1, l[0], l[1]), 2)
	p.takes(20, frame(1, 3, l[2], l[3]), 4)
	p.takes(20, frame(1, 3, l[2], l[3]), 4)
	p.takes(20, frame(3, 4, l[3], l[4], l[5]), 6)
	p.takes(20, frame(1, 1, l[0]), 6)
	p.putAside(l...)
	p.again()
	p.putAside(l...)
}

// P16.2, P16.6: hubs with the same numbers, each with a receiver and a secret of its own; a tap that comes over both is there once.
func TestItemsOfManyHubs(t *testing.T) {
	p := opened(t, api.Office{Secret: "k", Hubs: []int{4, 1, 3, 2}}, 40)
	x, y := tap(1, "a", 1), tap(2, "a", 2)
	for hub := 1; hub <= 4; hub++ {
		p.takes(hub, frame(1, 1, sealed(x), []byte{byte(hub)}), 2)
		p.takes(hub, frame(1, 4, sealed(y)), 2)
		p.takes(hub, frame(9, 9, sealed(y)), 9)
		p.refusesBytes(hub, madeWith(t, slowSecret("k", 1+hub%4), frame(10, 10, []byte("another's"))), api.ErrLinkSeal)
	}
	p.has(x, y)
	p.putAside([]byte{1}, []byte{2}, []byte{3}, []byte{4})
	for hub := 1; hub <= 4; hub++ {
		p.takes(hub, frame(9, 10, nil), 10)
	}
}

// P16.2: what is acknowledged is safe; where nothing is new there is no act, and the disk may even be down.
func TestItemsAreSafe(t *testing.T) {
	p := opened(t, two(), 40)
	f := frame(1, 1, sealed(tap(1, "a", 1)), []byte("bad"), sealed(tap(2, "a", 1)))
	p.takes(20, f, 3)
	if p.hand.Waiting() != 0 {
		t.Errorf("%d writes wait", p.hand.Waiting())
	}
	p.hand.Arm(0, false)
	for range 5 {
		p.takes(20, f, 3)
		p.takes(20, frame(1, 5, []byte("late")), 3)
		p.takes(20, frame(1, 1, f.Items[0]), 3)
		p.takes(30, frame(1, 1, f.Items[0]), 1)
		p.refuses(20, api.Frame{Kind: api.FrameHave}, api.ErrLinkForm)
		p.refuses(21, f, api.ErrIngestHub)
	}
	if p.hand.Down() {
		t.Error("there was an act")
	}
	p.refuses(20, frame(1, 4, []byte("new")), api.ErrDown)
	p.loses()
	p.has(tap(1, "a", 1), tap(2, "a", 1))
	p.putAside([]byte("bad"))
}

// P16.2: a batch that is greater than the room, and one that would be more than there is room for: nothing has changed, but that the receiver has heard of the frame.
func TestNoRoom(t *testing.T) {
	var l [][]byte
	for n := range 8 {
		l = append(l, sealed(tap(n+1, "a", n)))
	}
	p := opened(t, two(), 4) // room for 228: a tap counts 57
	p.refuses(20, frame(3, 3, l[:5]...), api.ErrBig)
	p.has()
	p.takes(20, frame(1, 4, l[0]), 2) // it has heard that 3 comes next
	p.refuses(30, frame(1, 1, l...), api.ErrBig)
	p.takes(30, frame(1, 2, l[0]), 0) // likewise 1
	p.takes(20, frame(3, 3, l[:4]...), 6)
	if n := p.office.Begin().Size(); n != 228 {
		t.Fatalf("%d", n)
	}
	for range 3 {
		p.refuses(20, frame(7, 7, l[4]), api.ErrFull)
		p.refuses(20, frame(7, 7, nil), api.ErrFull)
		p.refuses(20, frame(3, 3, l...), api.ErrFull)
		p.refuses(30, frame(1, 1, l[4], l[0]), api.ErrFull)
		p.refuses(30, frame(1, 1, slices.Repeat([][]byte{make([]byte, 100)}, 3)...), api.ErrBig)
		p.takes(30, frame(1, 2, l[0]), 0)
		p.takes(20, frame(7, 8, l[0]), 6)
	}
	p.takes(30, frame(1, 1, l[3], l[2]), 2) // known ones need no room
	if p.hand.Down() || p.office.Dead() {
		t.Error("it is dead")
	}
	p.loses()
	if n := len(p.office.Taps()); n != 4 {
		t.Errorf("%d taps", n)
	}
}

// P16.2: a receiver that jumps has heard so though there was no room; what comes again is taken as soon as there is some.
func TestRoomLater(t *testing.T) {
	p := opened(t, plain(), 4)
	p.commits("a", strings.Repeat("v", 190))
	x := sealed(tap(1, "a", 1))
	p.refuses(20, frame(1, 1, x), api.ErrFull)
	p.refuses(20, frame(5, 5, x), api.ErrFull)
	p.takes(20, frame(1, 1, x), 4)
	p.takes(20, frame(1, 4, nil), 4)
	p.refuses(20, frame(5, 5, x), api.ErrFull)
	p.commits("-a", "")
	p.takes(20, frame(5, 5, x), 5)
	p.has(tap(1, "a", 1))
}

// P16.2: the room at its edges: bad items of each size that just fits, and of one byte more.
func TestRoomAtItsEdges(t *testing.T) {
	for _, sectors := range []int{4, 6, 7, 8} {
		for _, there := range []int{0, 1, 50} {
			room := slowRoom(sectors)
			var l []string
			if there > 0 {
				l = append(l, "a", strings.Repeat("v", there))
				room -= 6 + there
			}
			var items [][]byte
			for room > 14+200 {
				items = append(items, make([]byte, 150))
				room -= 14 + 150
			}
			p := opened(t, plain(), sectors)
			p.commits(l...)
			want := api.ErrFull
			if there == 0 {
				want = api.ErrBig
			}
			p.refuses(20, frame(1, 1, append(slices.Clone(items), make([]byte, room-14+1))...), want)
			p.takes(20, frame(1, 1, append(slices.Clone(items), make([]byte, room-14))...), len(items)+1)
			if n := p.office.Begin().Size(); n != slowRoom(sectors) {
				t.Errorf("%d of %d", n, slowRoom(sectors))
			}
			p.again()
		}
	}
}

// P16.2: each other kind of frame is nothing that an office takes.
func TestOtherFrames(t *testing.T) {
	p := opened(t, plain(), 20)
	p.sends(words(1, 2)...)
	for _, f := range otherFrames() {
		p.refuses(20, f, api.ErrLinkForm)
	}
	p.takes(20, frame(1, 4, nil), 2)
}

// noFrames are bytes that no frame has.
func noFrames() [][]byte {
	right := binary.BigEndian.AppendUint64([]byte{2}, 1)
	return [][]byte{nil, {0}, {1}, {2}, {3}, {5}, {255}, right[:8], append(bytes.Clone(right), 0), binary.BigEndian.AppendUint64([]byte{2}, api.MaxCounter+1), binary.BigEndian.AppendUint64([]byte{3}, api.MaxRuns+1), {4}, {4, 0, 2, 1}, {4, 0, 0, 0},
		rawItems(0, 1, 1, 0, 1, 'a'), rawItems(2, 1, 1, 0, 1, 'a'), rawItems(1, 1, 0), rawItems(1, 1, 9, make([]byte, 18)...), rawItems(1, 1, 1, 0, 2, 'a'), rawItems(1, 1, 1, 0, 1, 'a', 'b'), rawItems(1, api.MaxCounter, 2, 0, 0, 0, 0), rawItems(1, 1, 1, append([]byte{1, 1}, make([]byte, 257)...)...)}
}

func rawItems(base, seq, many int, rest ...byte) []byte {
	b := binary.BigEndian.AppendUint64([]byte{1}, uint64(base))
	b = binary.BigEndian.AppendUint64(b, uint64(seq))
	return append(binary.BigEndian.AppendUint16(b, uint16(many)), rest...)
}

// P16.2: bytes that are no frame, under the right seal.
func TestNoFrames(t *testing.T) {
	p := opened(t, plain(), 20)
	p.sends(words(1, 2)...)
	for _, x := range noFrames() {
		p.refusesBytes(20, slowSeal(p.slow.secret(20), x), api.ErrLinkForm)
	}
	p.takes(20, frame(1, 4, nil), 2)
}

// P16.2: frames with another seal: of other nodes and secrets, spoilt in any byte, cut off, longer, none at all: they are refused, and change nothing; the receiver does not hear of them.
func TestOtherSeals(t *testing.T) {
	p := opened(t, two(), 20)
	p.sends(words(1, 2)...)
	for _, f := range append(otherFrames(), frame(1, 3, []byte("c")), frame(9, 9, sealed(tap(1, "a", 1)))) {
		for _, secret := range []string{"", "k", slowKey("k", 20), slowSecret("k", 30), slowSecret("k", 21), slowSecret("k", 0), slowSecret("l", 20), slowKey("k", 0)} {
			p.refusesBytes(20, madeWith(t, secret, f), api.ErrLinkSeal)
		}
		right := madeWith(t, slowSecret("k", 20), f)
		for at := range right {
			for _, by := range []byte{1, 128, 255} {
				x := bytes.Clone(right)
				x[at] ^= by
				p.refusesBytes(20, x, api.ErrLinkSeal)
			}
			p.refusesBytes(20, right[:at], api.ErrLinkSeal)
		}
		p.refusesBytes(20, append(bytes.Clone(right), 0), api.ErrLinkSeal)
		p.refusesBytes(20, slices.Concat(right, right), api.ErrLinkSeal)
	}
	p.refusesBytes(20, nil, api.ErrLinkSeal)
	p.refusesBytes(20, make([]byte, 100), api.ErrLinkSeal)
	p.takes(20, frame(1, 4, nil), 2)
}

// P16.2: an office has the hubs of its set-up, and no others.
func TestHubsThatThereAreNot(t *testing.T) {
	p := opened(t, two(), 20)
	for _, hub := range []int{math.MinInt, -20, -1, 0, 1, 19, 21, 29, 31, 65535, 65536, 65536 + 20, 1<<32 + 20, math.MaxInt} {
		p.refusesBytes(hub, madeWith(t, slowSecret("k", hub&65535), frame(1, 1, nil)), api.ErrIngestHub)
		p.refusesBytes(hub, madeWith(t, slowSecret("k", 20), frame(1, 1, nil)), api.ErrIngestHub)
		p.refusesBytes(hub, nil, api.ErrIngestHub)
	}
	p.putAside()
}

// P16.2, W4: which error it is where several would fit: that of a dead office, of the hub, of the seal, of the frame's form, of its kind, of the room.
func TestWhichErrorOfGot(t *testing.T) {
	p := opened(t, plain(), 4)
	spoilt := madeWith(t, slowSecret("k", 20), frame(1, 1, nil))
	spoilt[3]++
	wrong := append(noFrames(), spoilt, madeWith(t, "x", otherFrames()[0]), madeWith(t, slowSecret("k", 21), frame(1, 1, make([]byte, 256))))
	for _, x := range wrong {
		p.refusesBytes(21, x, api.ErrIngestHub)
		p.refusesBytes(21, slowSeal(slowSecret("k", 21), x), api.ErrIngestHub)
		p.refusesBytes(20, x, api.ErrLinkSeal)
		p.refusesBytes(20, slowSeal(slowSecret("k", 21), x), api.ErrLinkSeal)
	}
	p.commits("a", strings.Repeat("v", 222))
	p.hand.Arm(0, false)
	p.refuses(20, frame(1, 1, make([]byte, 256)), api.ErrBig)
	p.refuses(20, frame(1, 1, nil), api.ErrFull)
	if p.hand.Down() {
		t.Fatal("there was an act")
	}
	if e := p.commits("-a", ""); e != api.ErrDown {
		t.Fatal(e)
	}
	for _, hub := range []int{20, 21, -1} {
		for _, x := range append(wrong, madeWith(t, slowSecret("k", 20), frame(1, 1, nil)), slowSeal(slowSecret("k", 20), nil), madeWith(t, slowSecret("k", 20), frame(1, 1, make([]byte, 256)))) {
			p.refusesBytes(hub, x, api.ErrIngestDead)
		}
	}
}

// P16.2: any bytes of a hub, under the right seal or without, do what the slow office does.
func FuzzGot(f *testing.F) {
	spoilt := sealed(tap(3, "c", 3))
	spoilt[36]++
	for _, x := range append(otherFrames(), frame(1, 3, []byte("c")), frame(1, 1, sealed(tap(1, "a", 1)), nil, sealed(tap(2, "b", 2))), frame(5, 5, spoilt), frame(1, 1, make([]byte, 256), make([]byte, 256), make([]byte, 256), make([]byte, 256))) {
		made := madeWith(&testing.T{}, slowSecret("k", 20), x)
		f.Add(made[:len(made)-16], true, 20)
		f.Add(made, false, 20)
		f.Add(made, false, 30)
	}
	f.Fuzz(func(t *testing.T, x []byte, right bool, hub int) {
		p := opened(t, two(), 8)
		p.sends(sealed(tap(1, "a", 1)), []byte("bad"))
		if right {
			x = slowSeal(p.slow.secret(hub&65535), x)
		}
		p.got(hub, x)
		p.got(hub, x)
		p.again()
	})
}

// P16.2: any item does what the slow office does, under the seal of its device or without.
func FuzzJudged(f *testing.F) {
	for _, x := range append(badItems(), sealed(tap(1, "a", 1)), sealed(tap(1, "a", 2)), sealed(tap(2, "b", 1)), slowTap(tap(2, "b", 1)), slowTap(tap(1, "c", 1))) {
		f.Add(x, true)
		f.Add(x, false)
	}
	f.Fuzz(func(t *testing.T, x []byte, right bool) {
		if right && len(x) >= 2 {
			x = slowSeal(slowKey("k", int(x[0])<<8|int(x[1])), x)
		}
		x = x[:min(len(x), 256)]
		p := opened(t, plain(), 10)
		p.sends(sealed(tap(1, "a", 1)))
		p.sends(x, x)
		p.again()
	})
}
