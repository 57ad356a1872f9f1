package hub_test

import (
	"bytes"
	"encoding/binary"
	"fmt"
	"math"
	"slices"
	"strings"
	"testing"

	"farebox/api"
	"farebox/block"
	"farebox/hub"
	"farebox/link"
	"farebox/queue"
	"farebox/record"
	"farebox/store"
	"farebox/wal"
)

// plain is the set-up of the chapter's examples.
func plain() api.Hub { return api.Hub{Number: 20, Secret: "k", Limit: 2, Gates: []int{7, 8}} }

func limited(limit int) api.Hub {
	s := plain()
	s.Limit = limit
	return s
}

// both are a hub and a slow one: whatever is done to both, both answer alike.
type both struct {
	t    *testing.T
	hand *block.Hand
	hub  *hub.Hub
	slow *slowHub
}

// opened are both on a new disk, of just so many sectors as there must be.
func opened(t *testing.T, setup api.Hub) *both {
	t.Helper()
	return openedOn(t, block.New(hub.Sectors(setup.Limit)), newSlow(setup))
}

// openedOn are both on a disk, of which the slow one says how it stands.
func openedOn(t *testing.T, h *block.Hand, slow *slowHub) *both {
	t.Helper()
	p := &both{t: t, hand: h, slow: slow}
	p.again()
	return p
}

// again opens the disk once more, without a loss of power.
func (p *both) again() {
	p.t.Helper()
	h, err := hub.Open(p.hand.Disk(), p.slow.setup)
	if h == nil || err != nil {
		p.t.Fatalf("Open: %v, %v", h, err)
	}
	p.hub = h
	p.slow.open()
	p.alike("Open")
}

// loses is a loss of power; what the disk has then is opened, and is just what the slow hub has.
func (p *both) loses(keep ...bool) {
	p.t.Helper()
	p.hand.Crash(keep)
	p.again()
}

func (p *both) got(gate int, x []byte) ([][]byte, api.Errno) {
	p.t.Helper()
	what := fmt.Sprintf("Got(%d) of %d bytes", gate, len(x))
	before, down := p.slow.clone(), p.hand.Down()
	want, wantE := p.slow.got(gate, x)
	l, err := p.hub.Got(gate, x)
	e := p.same(what, down, err, wantE, before)
	if e == api.ErrDown {
		want = nil
	}
	if !slices.EqualFunc(l, want, bytes.Equal) {
		p.t.Fatalf("%s: %s, not %s", what, p.told(gate, l), p.told(gate, want))
	}
	return l, e
}

// gets is Got of a frame as that gate makes it: the frames that answer.
func (p *both) gets(gate int, f api.Frame) []api.Frame {
	p.t.Helper()
	secret, _ := link.Secret(p.slow.setup.Secret, gate)
	l, e := p.got(gate, madeWith(p.t, secret, f))
	if e != api.OK {
		p.t.Fatalf("Got(%d) of the kind %d: %d", gate, f.Kind, e)
	}
	var frames []api.Frame
	for _, x := range l {
		f, e := link.Parse(secret, x)
		if e != api.OK {
			p.t.Fatalf("the answer is no frame: %d", e)
		}
		frames = append(frames, f)
	}
	return frames
}

// takes holds that a gate's items are acknowledged up to a number.
func (p *both) takes(gate int, f api.Frame, want int) {
	p.t.Helper()
	if l := p.gets(gate, f); len(l) != 1 || l[0].Kind != api.FrameAck || l[0].Seq != want {
		p.t.Fatalf("Got(%d) of items: %v, not FrameAck %d", gate, l, want)
	}
}

// leads holds that a gate with a version gets a delta; of zero: none.
func (p *both) leads(gate, version int, want api.Delta) {
	p.t.Helper()
	l := p.gets(gate, have(version))
	if want.Version == 0 {
		if len(l) != 0 {
			p.t.Fatalf("Got(%d) of the version %d: %v", gate, version, l)
		}
		return
	}
	if len(l) != 1 || l[0].Kind != api.FrameDelta || !bytes.Equal(l[0].Bytes, slowDelta(want)) {
		p.t.Fatalf("Got(%d) of the version %d: %v, not %v", gate, version, l, want)
	}
}

// refuses holds Got of a frame against an error.
func (p *both) refuses(gate int, f api.Frame, want api.Errno) {
	p.t.Helper()
	p.refusesBytes(gate, madeWith(p.t, p.slow.secret(gate), f), want)
}

func (p *both) refusesBytes(gate int, x []byte, want api.Errno) {
	p.t.Helper()
	if l, e := p.got(gate, x); e != want || len(l) != 0 {
		p.t.Fatalf("Got(%d): %d frames, %d, not %d", gate, len(l), e, want)
	}
}

func (p *both) gotDown(x []byte) api.Errno {
	p.t.Helper()
	before, down := p.slow.clone(), p.hand.Down()
	want := p.slow.gotDown(x)
	return p.same(fmt.Sprintf("GotDown of %d bytes", len(x)), down, p.hub.GotDown(x), want, before)
}

// down holds GotDown of a frame as the office makes it against what the test says.
func (p *both) down(f api.Frame, want api.Errno) {
	p.t.Helper()
	if e := p.gotDown(p.made(f)); e != want {
		p.t.Fatalf("GotDown of the kind %d: %d, not %d", f.Kind, e, want)
	}
}

func (p *both) tick() [][]byte {
	p.t.Helper()
	want, got := p.slow.tick(), p.hub.Tick()
	if !slices.EqualFunc(got, want, bytes.Equal) {
		p.t.Fatalf("Tick: %s, not %s", p.told(p.slow.setup.Number, got), p.told(p.slow.setup.Number, want))
	}
	p.alike("Tick")
	return got
}

// same holds a call's answer against the slow one's. Where the disk went down in it, or was down, it may be ErrDown; then all is as ahead of it, and the hub is dead.
func (p *both) same(what string, down bool, err error, want api.Errno, before *slowHub) api.Errno {
	p.t.Helper()
	e := api.Number(err)
	went := p.hand.Down() && !down
	switch {
	case e == api.ErrDown && p.hand.Down() && want == api.OK:
		before.dead = true
		p.slow = before
	case went || e != want || (err == nil) != (e == api.OK):
		p.t.Fatalf("%s: %v, not %d; it went down: %v", what, err, want, went)
	}
	p.alike(what)
	return e
}

// alike looks at all that can be seen of both.
func (p *both) alike(what string) {
	p.t.Helper()
	h, s := p.hub, p.slow
	if h.Len() != len(s.items) || h.Dead() != s.dead || !sameList(h.Risk(), s.list) {
		p.t.Fatalf("behind %s: Len %d, Dead %v, %s; not %d, %v, %s", what, h.Len(), h.Dead(), short(h.Risk()), len(s.items), s.dead, short(s.list))
	}
	mosts := []int{math.MinInt, -1, 0, 1, 2}
	if h.Len() <= 16 {
		mosts = append(mosts, h.Len()-1, h.Len(), h.Len()+1, math.MaxInt)
	}
	for _, most := range mosts {
		if got, want := h.Waiting(most), s.waiting(most); !sameItems(got, want) {
			p.t.Fatalf("behind %s: Waiting(%d): %v, not %v", what, most, got, want)
		}
	}
}

// waits holds what waits against what the test says: the first one's number, and their bytes.
func (p *both) waits(first int, want ...string) {
	p.t.Helper()
	l := p.hub.Waiting(math.MaxInt)
	is := len(l) == len(want) && p.hub.Len() == len(want)
	for i, x := range l {
		is = is && x.Seq == first+i && string(x.Bytes) == want[i]
	}
	if !is {
		p.t.Fatalf("%v wait, not, from %d on, %q", l, first, want)
	}
}

// lists holds the list against what the test says.
func (p *both) lists(version int, tokens ...string) {
	p.t.Helper()
	if l := p.hub.Risk(); !sameList(l, api.RiskList{Version: version, Tokens: tokens}) {
		p.t.Fatalf("%s; not the version %d, %d tokens", short(l), version, len(tokens))
	}
}

// made is a frame as the office makes it.
func (p *both) made(f api.Frame) []byte {
	p.t.Helper()
	return madeWith(p.t, p.slow.secret(p.slow.setup.Number), f)
}

func madeWith(t *testing.T, secret string, f api.Frame) []byte {
	t.Helper()
	x, e := link.Make(secret, f)
	if e != api.OK {
		t.Fatalf("Make: %d", e)
	}
	return x
}

// told are frames of a node's link in words.
func (p *both) told(number int, l [][]byte) string {
	s := fmt.Sprint(len(l), " frames:")
	for _, x := range l {
		f, e := link.Parse(p.slow.secret(number), x)
		s += fmt.Sprintf(" {%d: kind %d, base %d, seq %d, %d items, %d bytes}", e, f.Kind, f.Base, f.Seq, len(f.Items), len(f.Bytes))
	}
	return s
}

// items is a frame with these, the first one's number being seq.
func items(base, seq int, l ...string) api.Frame {
	f := api.Frame{Kind: api.FrameItems, Base: base, Seq: seq}
	for _, s := range l {
		f.Items = append(f.Items, []byte(s))
	}
	return f
}

func ack(n int) api.Frame { return api.Frame{Kind: api.FrameAck, Seq: n} }

func have(n int) api.Frame { return api.Frame{Kind: api.FrameHave, Seq: n} }

// delta is a frame with one that may be; tokens are given as texts of letters, each eight times.
func delta(version int, add, gone string) api.Frame {
	return deltaOf(deltaWith(version, add, gone))
}

func deltaWith(version int, add, gone string) api.Delta {
	return api.Delta{Version: version, Add: tokens(add), Gone: tokens(gone)}
}

func deltaOf(d api.Delta) api.Frame {
	x, e := record.Delta(d)
	if e != api.OK {
		panic("a delta that may not be")
	}
	return api.Frame{Kind: api.FrameDelta, Bytes: x}
}

func tokens(letters string) []string {
	var l []string
	for _, r := range letters {
		l = append(l, strings.Repeat(string(r), 8))
	}
	return l
}

// many are so many tokens that rise, from a number on.
func many(from, n int) []string {
	var l []string
	for i := range n {
		l = append(l, fmt.Sprintf("%08d", from+i))
	}
	return l
}

// words are so many items, from a number on.
func words(from, n int) []string {
	var l []string
	for i := range n {
		l = append(l, fmt.Sprint("item ", from+i))
	}
	return l
}

// fill puts so many items of the gate 7 into both, one by one.
func (p *both) fill(n int) *both {
	p.t.Helper()
	for i := range n {
		p.takes(7, items(1, i+1, words(i+1, 1)...), i+1)
	}
	return p
}

func sameItems(a, b []api.Item) bool {
	return slices.EqualFunc(a, b, func(a, b api.Item) bool { return a.Seq == b.Seq && bytes.Equal(a.Bytes, b.Bytes) })
}

func sameList(a, b api.RiskList) bool {
	return a.Version == b.Version && slices.Equal(a.Tokens, b.Tokens)
}

func short(l api.RiskList) string {
	return fmt.Sprintf("version %d, %d tokens: %q", l.Version, len(l.Tokens), l.Tokens[:min(len(l.Tokens), 5)])
}

// queuePart and storePart are where they stand on the disk of a hub with that limit, as the chapter says.
func queuePart(h *block.Hand, limit int) *block.Disk {
	return h.Disk().Part(0, queue.Sectors(limit))
}

func storePart(h *block.Hand, limit int) *block.Disk {
	return h.Disk().Part(queue.Sectors(limit), 400)
}

// queued is a disk on which a queue with these items stands, and nothing else. The first one's number is behind acked.
func queued(t *testing.T, limit, acked int, items ...string) *block.Hand {
	t.Helper()
	h := block.New(hub.Sectors(limit))
	log, _, err := wal.Open(queuePart(h, limit))
	if err == nil {
		err = log.Rewrite([][]byte{binary.BigEndian.AppendUint32([]byte("FBQU\x01"), uint32(acked))})
	}
	if err != nil {
		t.Fatal(err)
	}
	q, err := queue.Open(queuePart(h, limit), limit)
	if err != nil {
		t.Fatal(err)
	}
	for i, x := range items {
		if n, err := q.Put([]byte(x)); n != acked+1+i || err != nil {
			t.Fatalf("Put: %d, %v", n, err)
		}
	}
	if err := q.Sync(); err != nil {
		t.Fatal(err)
	}
	return h
}

// near are both, the last number being by so many less than the greatest.
func near(t *testing.T, setup api.Hub, less int) *both {
	t.Helper()
	slow := newSlow(setup)
	slow.last = api.MaxCounter - less
	return openedOn(t, queued(t, setup.Limit, slow.last), slow)
}

// laid puts entries, a key and a value each, into the store of a hub's disk.
func laid(t *testing.T, h *block.Hand, limit int, l ...string) *block.Hand {
	t.Helper()
	s, err := store.Open(storePart(h, limit))
	if err != nil {
		t.Fatal(err)
	}
	d := s.Begin()
	for i := 0; i < len(l); i += 2 {
		if e := d.Put(l[i], l[i+1]); e != api.OK {
			t.Fatal(e)
		}
	}
	if err := s.Commit(d); err != nil {
		t.Fatal(err)
	}
	return h
}

// refused holds that a disk is not opened.
func refused(t *testing.T, h *block.Hand, setup api.Hub, want api.Errno) {
	t.Helper()
	if x, err := hub.Open(h.Disk(), setup); x != nil || api.Number(err) != want {
		t.Fatalf("Open(%d, %d bytes, %d, %.20v): %v, %v, not %d", setup.Number, len(setup.Secret), setup.Limit, fmt.Sprint(setup.Gates), x, err, want)
	}
}

// copied is another disk on which the same stands.
func copied(h *block.Hand) *block.Hand {
	sectors := h.Disk().Sectors()
	other := block.New(sectors)
	for at := range sectors {
		if x := h.Sector(at); slices.Max(x) > 0 {
			other.Plant(at, x)
		}
	}
	return other
}
