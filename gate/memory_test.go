package gate_test

import (
	"bytes"
	"fmt"
	"testing"
	"unsafe"

	"farebox/api"
	"farebox/block"
	"farebox/gate"
)

// loose is a text whose bytes can be changed: who keeps it is found out.
func loose(s string) (string, []byte) {
	x := []byte(s)
	return unsafe.String(unsafe.SliceData(x), len(x)), x
}

// fill puts a mark everywhere, into the spare room too.
func fill(x []byte) {
	for i := range x[:cap(x)] {
		x[:cap(x)][i] = 'z'
	}
}

// P14.7: the set-up's secret is not kept.
func TestSecretHandedIn(t *testing.T) {
	setup := plain()
	secret, x := loose(setup.Secret)
	h := block.New(gate.Sectors(2))
	given := setup
	given.Secret = secret
	g, err := gate.Open(h.Disk(), given)
	if err != nil || secret != "k" {
		t.Fatal(err)
	}
	fill(x)
	p := &both{t: t, hand: h, gate: g, slow: newSlow(setup)}
	p.presents(a, 5, api.VerdictAccepted)
	p.tick()
	p.gets(delta(1, "b", ""), api.OK)
	p.gets(ack(1), api.OK)
	p.again()
}

// P14.7: tokens that are presented are not kept.
func TestTokensHandedIn(t *testing.T) {
	p := opened(t, limited(9))
	for _, s := range []string{a, b, a, c} {
		token, x := loose(s)
		want, counter, _ := p.slow.present(s, 1, 3, 100)
		if v, n, err := p.gate.Present(token, 1, 3, 100); v != want || n != counter || err != nil || token != s {
			t.Fatalf("%d, %d, %v", v, n, err)
		}
		fill(x)
		p.alike("another text")
		p.presents(s, 104, api.VerdictPassback)
		p.presents("zzzzzzzz", -1, failed(api.ErrRecord))
	}
	p.presents("zzzzzzzz", 100, api.VerdictAccepted)
}

// P14.7: frames that are handed in are neither changed, nor their spare room, nor kept.
func TestFramesHandedIn(t *testing.T) {
	p := with(t, 9, 5)
	other := p.made(ack(1))
	other[2]++
	for _, frame := range [][]byte{p.made(ack(2)), p.made(delta(1, "abc", "")), p.made(delta(2, "d", "ac")), p.made(delta(2, "d", "ac")), p.made(ack(99)), p.made(have(3)), other, nil} {
		x := append(bytes.Clone(frame), 1, 2, 3, 4)[:len(frame)]
		before := bytes.Clone(x[:cap(x)])
		want := p.slow.got(bytes.Clone(frame))
		if e := api.Number(p.gate.Got(x)); e != want {
			t.Fatalf("%d, not %d", e, want)
		}
		if !bytes.Equal(before, x[:cap(x)]) {
			t.Fatal("what was handed in was changed")
		}
		fill(x)
		p.alike("other bytes")
	}
	p.stands(3, 5, 2, b, "dddddddd")
	p.again()
}

// P14.7, W6: whatever is done to the items that are answered, the gate is as it was, and so are the others; of a dead gate, too.
func TestItemsHandedOut(t *testing.T) {
	p := with(t, 9, 6)
	look := func() {
		t.Helper()
		for _, most := range []int{1, 3, 6, 9} {
			l, other := p.gate.Waiting(most), p.gate.Waiting(most)
			want := p.slow.waiting(most)
			for i := range l {
				fill(l[i].Bytes)
				if !sameItems(l[i+1:], want[i+1:]) {
					t.Fatal("two items share memory")
				}
				l[i].Bytes = append(l[i].Bytes, "more"...)
			}
			for i := range l[:cap(l)] {
				l[:cap(l)][i] = api.Item{Seq: -1}
			}
			if !sameItems(other, want) {
				t.Fatal("two answers share memory")
			}
			p.alike("a change of what was answered")
		}
	}
	look()
	p.gets(ack(1), api.OK)
	look()
	p.again()
	p.hand.Arm(1, false)
	p.gets(ack(4), api.ErrDown)
	look()
	p.loses(false)
}

// P14.7, W6: likewise the risk list, and what was answered stays as it was.
func TestListsHandedOut(t *testing.T) {
	p := opened(t, plain())
	p.gets(delta(1, "abc", ""), api.OK)
	for range 2 {
		l, other := p.gate.Risk(), p.gate.Risk()
		for i := range l.Tokens[:cap(l.Tokens)] {
			l.Tokens[:cap(l.Tokens)][i] = "never"
		}
		l.Tokens = append(l.Tokens[:1], "never", "never")
		if !sameList(other, api.RiskList{Version: 1, Tokens: tokens("abc")}) {
			t.Fatal("two answers share memory")
		}
		p.stands(1, 0, 1, tokens("abc")...)
		p.presents(a, 5, api.VerdictListed)
		p.again()
	}
	old := p.gate.Risk()
	p.gets(delta(2, "d", "b"), api.OK)
	if !sameList(old, api.RiskList{Version: 1, Tokens: tokens("abc")}) {
		t.Fatal("an answer from before was changed")
	}
	p.stands(1, 0, 2, tokens("acd")...)
}

// P14.7, W6: likewise the frames of a tick.
func TestFramesHandedOut(t *testing.T) {
	p := with(t, 9, 9)
	for range 9 {
		l := p.tick()
		want := make([][]byte, len(l))
		for i := range l {
			want[i] = bytes.Clone(l[i])
		}
		for i := range l {
			fill(l[i])
			for j := i + 1; j < len(l); j++ {
				if !bytes.Equal(l[j], want[j]) {
					t.Fatal("two frames share memory")
				}
			}
		}
		p.alike("a change of what was answered")
	}
}

// W2: gates apart do not see each other; two to which the same is done are alike, sector by sector.
func TestGatesApart(t *testing.T) {
	one, other, third := opened(t, limited(3)), opened(t, limited(3)), opened(t, limited(3))
	for n := range 50 {
		for _, p := range []*both{one, other} {
			p.present(fmt.Sprintf("%08d", n%7), 3*n)
			p.got(p.made(ack(n / 2)))
			p.tick()
		}
		third.present(a, 10*n)
	}
	for at := range gate.Sectors(3) {
		if !bytes.Equal(one.hand.Sector(at), other.hand.Sector(at)) {
			t.Errorf("the sector %d", at)
		}
	}
	one.hand.Arm(0, false)
	one.gets(delta(1, "a", ""), api.ErrDown)
	other.gets(delta(1, "a", ""), api.OK)
	third.stands(1, 3, 0)
}
