package gate_test

import (
	"bytes"
	"encoding/binary"
	"fmt"
	"math"
	"slices"
	"strings"
	"testing"

	"farebox/api"
	"farebox/block"
	"farebox/gate"
	"farebox/link"
	"farebox/queue"
	"farebox/record"
	"farebox/store"
	"farebox/wal"
)

const (
	a = "aaaaaaaa"
	b = "bbbbbbbb"
	c = "cccccccc"
)

// plain is the set-up of the chapter's examples.
func plain() api.Gate { return api.Gate{Device: 7, Secret: "k", Limit: 2, Passback: 5} }

func limited(limit int) api.Gate {
	s := plain()
	s.Limit = limit
	return s
}

// both are a gate and a slow one: whatever is done to both, both answer alike.
type both struct {
	t    *testing.T
	hand *block.Hand
	gate *gate.Gate
	slow *slowGate
}

// opened are both on a new disk, of just so many sectors as there must be.
func opened(t *testing.T, setup api.Gate) *both {
	t.Helper()
	return openedOn(t, block.New(gate.Sectors(setup.Limit)), newSlow(setup))
}

// openedOn are both on a disk, of which the slow one says how it stands.
func openedOn(t *testing.T, h *block.Hand, slow *slowGate) *both {
	t.Helper()
	p := &both{t: t, hand: h, slow: slow}
	p.again()
	return p
}

// again opens the disk once more, without a loss of power.
func (p *both) again() {
	p.t.Helper()
	g, err := gate.Open(p.hand.Disk(), p.slow.setup)
	if g == nil || err != nil {
		p.t.Fatalf("Open: %v, %v", g, err)
	}
	p.gate = g
	p.slow.open()
	p.alike("Open")
}

// loses is a loss of power; what the disk has then is opened, and is just what the slow gate has.
func (p *both) loses(keep ...bool) {
	p.t.Helper()
	p.hand.Crash(keep)
	p.again()
}

func (p *both) presentAt(token string, kind, place, time int) (int, int, api.Errno) {
	p.t.Helper()
	what := fmt.Sprintf("Present(%.20q, %d, %d, %d)", token, kind, place, time)
	before, down := p.slow.clone(), p.hand.Down()
	wantV, wantN, wantE := p.slow.present(token, kind, place, time)
	v, n, err := p.gate.Present(token, kind, place, time)
	e := p.same(what, down, err, wantE, before)
	if e == api.ErrDown {
		wantV, wantN = 0, 0
	}
	if v != wantV || n != wantN {
		p.t.Fatalf("%s: %d, %d, %v; not %d, %d", what, v, n, err, wantV, wantN)
	}
	return v, n, e
}

// present is of a ride; the answer is the verdict, or, of an error, 100 and that.
func (p *both) present(token string, time int) int {
	p.t.Helper()
	v, _, e := p.presentAt(token, api.TapBus, 9, time)
	if e != api.OK {
		return 100 + int(e)
	}
	return v
}

// presents holds a presentation against what the test says, beside what the slow gate does.
func (p *both) presents(token string, time, want int) {
	p.t.Helper()
	if got := p.present(token, time); got != want {
		p.t.Fatalf("Present(%s, %d): %d, not %d", token, time, got, want)
	}
}

func failed(e api.Errno) int { return 100 + int(e) }

func (p *both) got(x []byte) api.Errno {
	p.t.Helper()
	before, down := p.slow.clone(), p.hand.Down()
	want := p.slow.got(x)
	return p.same(fmt.Sprintf("Got of %d bytes", len(x)), down, p.gate.Got(x), want, before)
}

// gets holds Got of a frame against what the test says.
func (p *both) gets(f api.Frame, want api.Errno) {
	p.t.Helper()
	if e := p.got(p.made(f)); e != want {
		p.t.Fatalf("Got of the kind %d: %d, not %d", f.Kind, e, want)
	}
}

func (p *both) tick() [][]byte {
	p.t.Helper()
	want, got := p.slow.tick(), p.gate.Tick()
	if !slices.EqualFunc(got, want, bytes.Equal) {
		p.t.Fatalf("Tick: %s, not %s", p.told(got), p.told(want))
	}
	p.alike("Tick")
	return got
}

// same holds a call's answer against the slow one's. Where the disk went down in it, or was down, it may be ErrDown; then all is as ahead of it, and the gate is dead.
func (p *both) same(what string, down bool, err error, want api.Errno, before *slowGate) api.Errno {
	p.t.Helper()
	e := api.Number(err)
	went := p.hand.Down() && !down
	switch {
	case e == api.ErrDown && p.hand.Down() && want == api.OK:
		before.dead = true
		p.slow = before
	case went || e != want || (err == nil) != (e == api.OK):
		p.t.Fatalf("%s: %v, not %d; it went down: %v", what, err, want, went)
	}
	p.alike(what)
	return e
}

// alike looks at all that can be seen of both.
func (p *both) alike(what string) {
	p.t.Helper()
	g, s := p.gate, p.slow
	if g.Len() != len(s.items) || g.Counter() != s.last || g.Dead() != s.dead || !sameList(g.Risk(), s.list) {
		p.t.Fatalf("behind %s: Len %d, Counter %d, Dead %v, %s; not %d, %d, %v, %s", what, g.Len(), g.Counter(), g.Dead(), short(g.Risk()), len(s.items), s.last, s.dead, short(s.list))
	}
	mosts := []int{math.MinInt, -1, 0, 1, 2}
	if g.Len() <= 16 {
		mosts = append(mosts, g.Len()-1, g.Len(), g.Len()+1, math.MaxInt)
	}
	for _, most := range mosts {
		if got, want := g.Waiting(most), s.waiting(most); !sameItems(got, want) {
			p.t.Fatalf("behind %s: Waiting(%d): %v, not %v", what, most, got, want)
		}
	}
}

// stands holds the gate against what the test says: which counters wait, and which tokens are listed in which version.
func (p *both) stands(first, last, version int, tokens ...string) {
	p.t.Helper()
	g := p.gate
	if g.Len() != last-first+1 || g.Counter() != last || !sameList(g.Risk(), api.RiskList{Version: version, Tokens: tokens}) {
		p.t.Fatalf("Len %d, Counter %d, %s; not %d, %d, version %d, %q", g.Len(), g.Counter(), short(g.Risk()), last-first+1, last, version, tokens)
	}
	for i, x := range g.Waiting(math.MaxInt) {
		if x.Seq != first+i {
			p.t.Fatalf("the item %d has the number %d, not %d", i, x.Seq, first+i)
		}
	}
}

// made is a frame as its hub makes it.
func (p *both) made(f api.Frame) []byte {
	p.t.Helper()
	return madeWith(p.t, p.slow.secret(), f)
}

func madeWith(t *testing.T, secret string, f api.Frame) []byte {
	t.Helper()
	x, e := link.Make(secret, f)
	if e != api.OK {
		t.Fatalf("Make: %d", e)
	}
	return x
}

// told are frames in words.
func (p *both) told(l [][]byte) string {
	s := fmt.Sprint(len(l), " frames:")
	for _, x := range l {
		f, e := link.Parse(p.slow.secret(), x)
		s += fmt.Sprintf(" {%d: kind %d, base %d, seq %d, %d items}", e, f.Kind, f.Base, f.Seq, len(f.Items))
	}
	return s
}

func ack(n int) api.Frame { return api.Frame{Kind: api.FrameAck, Seq: n} }

func have(n int) api.Frame { return api.Frame{Kind: api.FrameHave, Seq: n} }

// delta is a frame with one that may be; tokens are given as texts of letters, each eight times.
func delta(version int, add, gone string) api.Frame {
	return deltaOf(api.Delta{Version: version, Add: tokens(add), Gone: tokens(gone)})
}

func deltaOf(d api.Delta) api.Frame {
	x, e := record.Delta(d)
	if e != api.OK {
		panic("a delta that may not be")
	}
	return api.Frame{Kind: api.FrameDelta, Bytes: x}
}

func tokens(letters string) []string {
	var l []string
	for _, r := range letters {
		l = append(l, strings.Repeat(string(r), 8))
	}
	return l
}

// many are so many tokens that rise, from a number on.
func many(from, n int) []string {
	var l []string
	for i := range n {
		l = append(l, fmt.Sprintf("%08d", from+i))
	}
	return l
}

func sameItems(a, b []api.Item) bool {
	return slices.EqualFunc(a, b, func(a, b api.Item) bool { return a.Seq == b.Seq && bytes.Equal(a.Bytes, b.Bytes) })
}

func sameList(a, b api.RiskList) bool {
	return a.Version == b.Version && slices.Equal(a.Tokens, b.Tokens)
}

func short(l api.RiskList) string {
	return fmt.Sprintf("version %d, %d tokens: %q", l.Version, len(l.Tokens), l.Tokens[:min(len(l.Tokens), 5)])
}

// queuePart and storePart are where they stand on the disk of a gate with that limit, as the chapter says.
func queuePart(h *block.Hand, limit int) *block.Disk {
	return h.Disk().Part(0, queue.Sectors(limit))
}

func storePart(h *block.Hand, limit int) *block.Disk {
	return h.Disk().Part(queue.Sectors(limit), 140)
}

// queued is a disk on which a queue with these items stands, and nothing else. The first one's number is behind acked.
func queued(t *testing.T, limit, acked int, items ...[]byte) *block.Hand {
	t.Helper()
	h := block.New(gate.Sectors(limit))
	log, _, err := wal.Open(queuePart(h, limit))
	if err == nil {
		err = log.Rewrite([][]byte{binary.BigEndian.AppendUint32([]byte("FBQU\x01"), uint32(acked))})
	}
	if err != nil {
		t.Fatal(err)
	}
	q, err := queue.Open(queuePart(h, limit), limit)
	if err != nil {
		t.Fatal(err)
	}
	for i, x := range items {
		if n, err := q.Put(x); n != acked+1+i || err != nil {
			t.Fatalf("Put: %d, %v", n, err)
		}
	}
	if err := q.Sync(); err != nil {
		t.Fatal(err)
	}
	return h
}

// near are both, the last counter being by so many less than the greatest.
func near(t *testing.T, setup api.Gate, less int) *both {
	t.Helper()
	slow := newSlow(setup)
	slow.last = api.MaxCounter - less
	return openedOn(t, queued(t, setup.Limit, slow.last), slow)
}

// laid puts entries, a key and a value each, into the store of a gate's disk.
func laid(t *testing.T, h *block.Hand, limit int, l ...string) *block.Hand {
	t.Helper()
	s, err := store.Open(storePart(h, limit))
	if err != nil {
		t.Fatal(err)
	}
	d := s.Begin()
	for i := 0; i < len(l); i += 2 {
		if e := d.Put(l[i], l[i+1]); e != api.OK {
			t.Fatal(e)
		}
	}
	if err := s.Commit(d); err != nil {
		t.Fatal(err)
	}
	return h
}

// refused holds that a disk is not opened.
func refused(t *testing.T, h *block.Hand, setup api.Gate, want api.Errno) {
	t.Helper()
	if g, err := gate.Open(h.Disk(), setup); g != nil || api.Number(err) != want {
		t.Fatalf("Open(%d, %d bytes, %d, %d): %v, %v, not %d", setup.Device, len(setup.Secret), setup.Limit, setup.Passback, g, err, want)
	}
}

// copied is another disk on which the same stands.
func copied(h *block.Hand) *block.Hand {
	sectors := h.Disk().Sectors()
	other := block.New(sectors)
	for at := range sectors {
		if x := h.Sector(at); slices.Max(x) > 0 {
			other.Plant(at, x)
		}
	}
	return other
}
