package gate_test

import (
	"bytes"
	"fmt"
	"math/rand"
	"testing"

	"farebox/api"
	"farebox/block"
	"farebox/gate"
	"farebox/link"
)

// with are both, with so many items.
func with(t *testing.T, limit, items int) *both {
	t.Helper()
	p := opened(t, limited(limit))
	for n := range items {
		p.presents(fmt.Sprintf("%08d", n), n, api.VerdictAccepted)
	}
	return p
}

// ticks holds a tick against what the test says: of each frame of items its first number, and how many there are; then the version.
func (p *both) ticks(version int, want ...int) {
	p.t.Helper()
	l := p.tick()
	if len(l) != len(want)/2+1 {
		p.t.Fatalf("%s, not %v", p.told(l), want)
	}
	secret, _ := link.Secret(p.slow.setup.Secret, p.slow.setup.Device)
	for i, x := range l {
		f, e := link.Parse(secret, x)
		if e != api.OK {
			p.t.Fatalf("the frame %d: %d", i, e)
		}
		if i == len(l)-1 {
			if f.Kind != api.FrameHave || f.Seq != version {
				p.t.Fatalf("%s, not the version %d", p.told(l), version)
			}
			continue
		}
		if f.Kind != api.FrameItems || f.Seq != want[2*i] || len(f.Items) != want[2*i+1] || f.Base != p.gate.Waiting(1)[0].Seq {
			p.t.Fatalf("%s, not %v", p.told(l), want)
		}
		for j, item := range f.Items {
			if first := f.Seq - f.Base; !bytes.Equal(item, p.gate.Waiting(8)[first+j].Bytes) {
				p.t.Fatalf("the item %d is another one", f.Seq+j)
			}
		}
	}
}

// P14.4: queues with none, fewer and more items than a frame, and than the window, has.
func TestTickOfItems(t *testing.T) {
	for items, want := range map[int][]int{0: nil, 1: {1, 1}, 3: {1, 3}, 4: {1, 4}, 5: {1, 4, 5, 1}, 7: {1, 4, 5, 3}, 8: {1, 4, 5, 4}, 9: {1, 4, 5, 4}, 20: {1, 4, 5, 4}} {
		p := with(t, 20, items)
		for range 4 {
			p.ticks(0, want...)
			p.ticks(0)
			p.ticks(0)
		}
	}
}

// P14.4: what is let go is not sent, what comes behind it is; the rest is sent again behind three ticks.
func TestTickGoesOn(t *testing.T) {
	p := with(t, 20, 12)
	p.ticks(0, 1, 4, 5, 4)
	p.gets(ack(2), api.OK)
	p.ticks(0, 9, 2)
	p.gets(delta(1, "a", ""), api.OK)
	p.gets(ack(3), api.OK)
	p.ticks(1, 11, 1)
	p.ticks(1, 4, 4, 8, 1)
	p.ticks(1, 9, 2)
	p.gets(ack(12), api.OK)
	p.ticks(1)
	p.presents(b, 1000, api.VerdictAccepted)
	p.ticks(1, 13, 1)
	p.presents(b, 1010, api.VerdictAccepted)
	p.ticks(1, 14, 1)
	p.ticks(1)
	p.ticks(1, 13, 1)
	p.ticks(1, 14, 1)
}

// P14.4: the sender is made by Open: behind that all is sent anew.
func TestTickBehindOpen(t *testing.T) {
	p := with(t, 9, 9)
	p.gets(delta(1, "a", ""), api.OK)
	for range 3 {
		p.ticks(1, 1, 4, 5, 4)
		p.ticks(1)
		p.again()
	}
	p.ticks(1, 1, 4, 5, 4)
	p.loses()
	p.ticks(1, 1, 4, 5, 4)
}

// P14.4: ticking is no act, and can go on with the disk down, as long as the gate is not dead.
func TestTickWithoutActs(t *testing.T) {
	p := with(t, 9, 9)
	p.hand.Arm(0, false)
	for range 9 {
		p.tick()
	}
	if p.hand.Down() {
		t.Error("there was an act")
	}
	p.hand.Disk().Sync()
	for range 9 {
		if len(p.tick()) == 0 {
			t.Error("a gate that is not dead ticks no more")
		}
	}
	p.gets(ack(1), api.ErrDown)
	for range 9 {
		if l := p.tick(); len(l) != 0 {
			t.Errorf("a dead gate: %d frames", len(l))
		}
	}
	p.loses()
	p.ticks(0, 1, 4, 5, 4)
}

// P14.4: versions up to the greatest that a frame has room for; a greater one is not told.
func TestTickOfGreatVersions(t *testing.T) {
	for _, version := range []int{1, 255, 256, 1<<31 - 2, 1<<31 - 1, 1 << 31} {
		p := versioned(t, version)
		p.ticks(version)
		p.gets(delta(version+1, "b", ""), api.OK)
		if version < 1<<31 {
			p.ticks(version + 1)
		} else if l := p.tick(); len(l) != 0 {
			t.Error(p.told(l))
		}
		p.presents(c, 5, api.VerdictAccepted)
		if l := p.tick(); len(l) == 0 {
			t.Error("the item is not sent")
		}
		p.again()
	}
}

// versioned are both, with a list of that version.
func versioned(t *testing.T, version int) *both {
	t.Helper()
	slow := newSlow(plain())
	slow.list = api.RiskList{Version: version, Tokens: tokens("a")}
	h := block.New(gate.Sectors(2))
	return openedOn(t, laid(t, h, 2, "l", bytesOf(api.Delta{Version: version, Add: tokens("a")})), slow)
}

// P14.4: what a gate sends reaches its hub over a link that loses and mixes up: each once, in order; what the hub takes it lets go.
func TestTickToAHub(t *testing.T) {
	rnd := rand.New(rand.NewSource(144))
	for range 10 {
		p := with(t, 40, 40)
		sent := p.gate.Waiting(40)
		r := link.NewReceiver()
		var took []api.Item
		var air [][]byte
		for ticks := 0; p.gate.Len() > 0; ticks++ {
			if ticks > 5000 {
				t.Fatal("they never arrive")
			}
			air = append(air, p.tick()...)
			for range rnd.Intn(6) {
				f, _ := link.Parse(p.slow.secret(), air[rnd.Intn(len(air))])
				for _, x := range r.Got(f) {
					took = append(took, x)
					r.Take(x.Seq)
				}
				if f, is := r.Ack(); is && rnd.Intn(2) == 0 {
					p.gets(f, api.OK)
				}
			}
			air = air[max(0, len(air)-20):]
		}
		if !sameItems(took, sent) {
			t.Fatalf("%d arrived", len(took))
		}
	}
}
