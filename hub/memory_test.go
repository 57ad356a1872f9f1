package hub_test

import (
	"bytes"
	"slices"
	"testing"
	"unsafe"

	"farebox/api"
	"farebox/block"
	"farebox/hub"
)

// loose is a text whose bytes can be changed: who keeps it is found out.
func loose(s string) (string, []byte) {
	x := []byte(s)
	return unsafe.String(unsafe.SliceData(x), len(x)), x
}

// mark puts a mark everywhere, into the spare room too.
func mark(x []byte) {
	for i := range x[:cap(x)] {
		x[:cap(x)][i] = 'z'
	}
}

// P15.7: the set-up's secret and its gates are neither changed, nor their spare room, nor kept.
func TestSetupHandedIn(t *testing.T) {
	secret, x := loose("k")
	gates := []int{7, 8, 5, 6}[:2]
	given := api.Hub{Number: 20, Secret: secret, Limit: 9, Gates: gates}
	h := block.New(hub.Sectors(9))
	opened, err := hub.Open(h.Disk(), given)
	if err != nil || secret != "k" || !slices.Equal(gates[:4], []int{7, 8, 5, 6}) {
		t.Fatal(err)
	}
	mark(x)
	copy(gates[:4], []int{1, 2, 3, 4})
	p := &both{t: t, hand: h, hub: opened, slow: newSlow(limited(9))}
	p.takes(7, items(1, 1, "a"), 1)
	p.takes(8, items(1, 1, "a"), 1)
	p.refuses(1, items(1, 1, "a"), api.ErrHubGate)
	p.refuses(5, items(1, 1, "a"), api.ErrHubGate)
	p.tick()
	p.down(delta(1, "b", ""), api.OK)
	p.down(ack(1), api.OK)
	p.leads(7, 0, deltaWith(1, "b", ""))
	p.again()
	gates = []int{7, 7, 8}[:2]
	refused(t, h, api.Hub{Number: 20, Secret: "k", Limit: 9, Gates: gates}, api.ErrHub)
	if !slices.Equal(gates[:3], []int{7, 7, 8}) {
		t.Error("what was handed in was changed")
	}
}

// spare are the same bytes with spare room behind them.
func spare(x []byte) []byte { return append(bytes.Clone(x), 1, 2, 3, 4)[:len(x)] }

// P15.7: frames that are handed in are neither changed, nor their spare room, nor kept.
func TestFramesHandedIn(t *testing.T) {
	p := opened(t, limited(9))
	hands := func(frame []byte, call func(x []byte)) {
		t.Helper()
		x := spare(frame)
		before := bytes.Clone(x[:cap(x)])
		call(x)
		if !bytes.Equal(before, x[:cap(x)]) {
			t.Fatal("what was handed in was changed")
		}
		mark(x)
		p.alike("other bytes")
	}
	secret := p.slow.secret(7)
	other := madeWith(t, secret, items(1, 4, "d"))
	other[2]++
	for _, frame := range [][]byte{madeWith(t, secret, items(1, 1, "a", "", "c")), madeWith(t, secret, items(1, 1, "a", "", "c")), madeWith(t, secret, items(1, 9, "i")), madeWith(t, secret, have(0)), madeWith(t, secret, ack(0)), other, nil} {
		hands(frame, func(x []byte) { p.got(7, x) })
		hands(frame, func(x []byte) { p.got(9, x) })
	}
	spoilt := p.made(ack(1))
	spoilt[2]++
	for _, frame := range [][]byte{p.made(ack(1)), p.made(delta(1, "abc", "")), p.made(delta(2, "d", "ac")), p.made(delta(2, "d", "ac")), p.made(ack(99)), p.made(have(3)), spoilt, nil} {
		hands(frame, func(x []byte) { p.gotDown(x) })
	}
	p.waits(2, "", "c")
	p.lists(2, tokens("bd")...)
	p.leads(7, 0, deltaWith(1, "abc", ""))
	p.leads(7, 1, deltaWith(2, "d", "ac"))
	p.again()
}

// P15.7, W6: whatever is done to the items that are answered, the hub is as it was, and so are the others; of a dead hub, too.
func TestItemsHandedOut(t *testing.T) {
	p := opened(t, limited(9)).fill(6)
	look := func() {
		t.Helper()
		for _, most := range []int{1, 3, 6, 9} {
			l, other := p.hub.Waiting(most), p.hub.Waiting(most)
			want := p.slow.waiting(most)
			for i := range l {
				mark(l[i].Bytes)
				if !sameItems(l[i+1:], want[i+1:]) {
					t.Fatal("two items share memory")
				}
				l[i].Bytes = append(l[i].Bytes, "more"...)
			}
			for i := range l[:cap(l)] {
				l[:cap(l)][i] = api.Item{Seq: -1}
			}
			if !sameItems(other, want) {
				t.Fatal("two answers share memory")
			}
			p.alike("a change of what was answered")
		}
	}
	look()
	p.down(ack(1), api.OK)
	look()
	p.again()
	p.hand.Arm(1, false)
	p.down(ack(4), api.ErrDown)
	look()
	p.loses(false)
}

// P15.7, W6: likewise the risk list, and what was answered stays as it was.
func TestListsHandedOut(t *testing.T) {
	p := opened(t, plain())
	p.down(delta(1, "abc", ""), api.OK)
	for range 2 {
		l, other := p.hub.Risk(), p.hub.Risk()
		for i := range l.Tokens[:cap(l.Tokens)] {
			l.Tokens[:cap(l.Tokens)][i] = "never"
		}
		l.Tokens = append(l.Tokens[:1], "never", "never")
		if !sameList(other, api.RiskList{Version: 1, Tokens: tokens("abc")}) {
			t.Fatal("two answers share memory")
		}
		p.lists(1, tokens("abc")...)
		p.again()
	}
	old := p.hub.Risk()
	p.down(delta(2, "d", "b"), api.OK)
	if !sameList(old, api.RiskList{Version: 1, Tokens: tokens("abc")}) {
		t.Fatal("an answer from before was changed")
	}
	p.lists(2, tokens("acd")...)
}

// P15.7, W6: likewise the frames of a tick, and those that answer a gate.
func TestFramesHandedOut(t *testing.T) {
	p := opened(t, limited(9)).fill(9)
	p.down(delta(1, "abc", ""), api.OK)
	for range 9 {
		l := p.tick()
		want := make([][]byte, len(l))
		for i := range l {
			want[i] = bytes.Clone(l[i])
		}
		for i := range l {
			mark(l[i])
			for j := i + 1; j < len(l); j++ {
				if !bytes.Equal(l[j], want[j]) {
					t.Fatal("two frames share memory")
				}
			}
		}
		p.alike("a change of what was answered")
		for _, f := range []api.Frame{have(0), items(1, 1, "x")} {
			l, _ := p.got(7, madeWith(t, p.slow.secret(7), f))
			for i := range l {
				mark(l[i])
			}
			p.gets(7, f)
		}
	}
}

// W2: hubs apart do not see each other; two to which the same is done are alike, sector by sector.
func TestHubsApart(t *testing.T) {
	one, other, third := opened(t, limited(3)), opened(t, limited(3)), opened(t, limited(3))
	for n := range 50 {
		for _, p := range []*both{one, other} {
			p.gets(7, items(1, n+1, words(n+1, 2)...))
			p.gets(8, items(n+1, n+1, "x"))
			p.gotDown(p.made(ack(n / 2)))
			p.gotDown(p.made(delta(1+n/3, "", "")))
			p.tick()
		}
		third.gets(8, items(n+1, n+1, "y"))
	}
	for at := range hub.Sectors(3) {
		if !bytes.Equal(one.hand.Sector(at), other.hand.Sector(at)) {
			t.Errorf("the sector %d", at)
		}
	}
	one.hand.Arm(0, false)
	one.down(delta(18, "a", ""), api.ErrDown)
	other.down(delta(18, "a", ""), api.OK)
	third.waits(1, "y", "y", "y")
}
