package ingest_test

import (
	"bytes"
	"fmt"
	"maps"
	"slices"
	"strings"
	"sync"
	"testing"

	"farebox/api"
	"farebox/block"
	"farebox/ingest"
	"farebox/link"
	"farebox/store"
	"farebox/wal"
)

// plain is the set-up of the chapter's examples; two has one hub more.
func plain() api.Office { return api.Office{Secret: "k", Hubs: []int{20}} }

func two() api.Office { return api.Office{Secret: "k", Hubs: []int{20, 30}} }

// both are an office and a slow one: whatever is done to both, both answer alike.
type both struct {
	t      *testing.T
	hand   *block.Hand
	office *ingest.Office
	slow   *slowOffice
	after  *slowOffice // as it would be behind the call that failed
}

// opened are both on a new disk.
func opened(t *testing.T, setup api.Office, sectors int) *both {
	t.Helper()
	return openedOn(t, block.New(sectors), newSlow(setup, sectors))
}

// openedOn are both on a disk, of which the slow one says how it stands.
func openedOn(t *testing.T, h *block.Hand, slow *slowOffice) *both {
	t.Helper()
	p := &both{t: t, hand: h, slow: slow}
	p.again()
	return p
}

// again opens the disk once more, without a loss of power.
func (p *both) again() {
	p.t.Helper()
	o, err := ingest.Open(p.hand.Disk(), p.slow.setup)
	if o == nil || err != nil {
		p.t.Fatalf("Open: %v, %v", o, err)
	}
	p.office = o
	p.slow.open()
	p.alike("Open")
}

// loses is a loss of power; what the disk has then is opened, and is just what the slow office has: as ahead of a call that failed, or as behind it. The answer is whether it is the latter.
func (p *both) loses(keep ...bool) bool {
	p.t.Helper()
	p.hand.Crash(keep)
	o, err := ingest.Open(p.hand.Disk(), p.slow.setup)
	if err != nil {
		p.t.Fatalf("Open: %v", err)
	}
	p.office = o
	kept := p.after != nil && !maps.Equal(entriesOf(o.Begin()), p.slow.entries)
	if kept {
		p.slow = p.after
	}
	p.after = nil
	p.slow.open()
	p.alike("a loss of power")
	return kept
}

func entriesOf(d *store.Draft) map[string]string { return maps.Collect(d.All("", "")) }

func (p *both) got(hub int, x []byte) ([][]byte, api.Errno) {
	p.t.Helper()
	what := fmt.Sprintf("Got(%d) of %d bytes", hub, len(x))
	before, down := p.slow.clone(), p.hand.Down()
	want, wantE := p.slow.got(hub, x)
	l, err := p.office.Got(hub, x)
	e := p.same(what, down, err, wantE, before)
	if e == api.ErrDown {
		want = nil
	}
	if !slices.EqualFunc(l, want, bytes.Equal) {
		p.t.Fatalf("%s: %x, not %x", what, l, want)
	}
	return l, e
}

// takes holds that a hub's items are acknowledged up to a number.
func (p *both) takes(hub int, f api.Frame, want int) {
	p.t.Helper()
	secret, _ := link.Secret(p.slow.setup.Secret, hub)
	l, e := p.got(hub, madeWith(p.t, secret, f))
	if e != api.OK || len(l) != 1 {
		p.t.Fatalf("Got(%d) of items: %d frames, %d", hub, len(l), e)
	}
	ack, e := link.Parse(secret, l[0])
	if e != api.OK || ack.Kind != api.FrameAck || ack.Seq != want {
		p.t.Fatalf("Got(%d) of items: %v, %d; not FrameAck %d", hub, ack, e, want)
	}
}

// refuses holds Got of a frame against an error.
func (p *both) refuses(hub int, f api.Frame, want api.Errno) {
	p.t.Helper()
	p.refusesBytes(hub, madeWith(p.t, p.slow.secret(hub), f), want)
}

func (p *both) refusesBytes(hub int, x []byte, want api.Errno) {
	p.t.Helper()
	if l, e := p.got(hub, x); e != want || len(l) != 0 {
		p.t.Fatalf("Got(%d): %d frames, %d, not %d", hub, len(l), e, want)
	}
}

// sends lets the hub 20 send items, each next number, in frames of so many as there may be.
func (p *both) sends(items ...[]byte) {
	p.t.Helper()
	for l := range slices.Chunk(items, 8) {
		seq := max(p.slow.next[20], 1)
		p.takes(20, frame(seq, seq, l...), seq+len(l)-1)
	}
}

// commits does edits, a key and a value each, to both; of a key with a minus ahead: the entry goes.
func (p *both) commits(l ...string) api.Errno {
	p.t.Helper()
	d, entries := p.office.Begin(), maps.Clone(p.slow.entries)
	for i := 0; i < len(l); i += 2 {
		if key, gone := strings.CutPrefix(l[i], "-"); gone {
			d.Delete(key)
			delete(entries, key)
			continue
		}
		if e := d.Put(l[i], l[i+1]); e != api.OK {
			p.t.Fatal(e)
		}
		entries[l[i]] = l[i+1]
	}
	before, down := p.slow.clone(), p.hand.Down()
	want := api.ErrIngestDead
	if !p.slow.dead {
		want = p.slow.commit(entries)
	}
	return p.same("Commit", down, p.office.Commit(d), want, before)
}

// same holds a call's answer against the slow one's. Where the disk went down in it, or was down, it may be ErrDown; then all is as ahead of it, and the office is dead.
func (p *both) same(what string, down bool, err error, want api.Errno, before *slowOffice) api.Errno {
	p.t.Helper()
	e := api.Number(err)
	went := p.hand.Down() && !down
	switch {
	case e == api.ErrDown && p.hand.Down() && want == api.OK:
		before.dead = true
		p.slow, p.after = before, p.slow
	case went || e != want || (err == nil) != (e == api.OK):
		p.t.Fatalf("%s: %v, not %d; it went down: %v", what, err, want, went)
	}
	p.alike(what)
	return e
}

// alike looks at all that can be seen of both.
func (p *both) alike(what string) {
	p.t.Helper()
	o, s := p.office, p.slow
	if o.Dead() != s.dead {
		p.t.Fatalf("behind %s: Dead %v", what, o.Dead())
	}
	if got := entriesOf(o.Begin()); !maps.Equal(got, s.entries) {
		p.t.Fatalf("behind %s: %q, not %q", what, got, s.entries)
	}
	if got, want := o.Taps(), s.taps(); !slices.Equal(got, want) {
		p.t.Fatalf("behind %s: Taps: %v, not %v", what, got, want)
	}
	if got, want := o.Bad(), s.bad(); !slices.EqualFunc(got, want, bytes.Equal) {
		p.t.Fatalf("behind %s: Bad: %q, not %q", what, got, want)
	}
}

// has holds the taps that were taken in against what the test says.
func (p *both) has(want ...api.Tap) {
	p.t.Helper()
	if l := p.office.Taps(); !slices.Equal(l, want) {
		p.t.Fatalf("Taps: %v, not %v", l, want)
	}
}

// putAside holds what was put aside against what the test says.
func (p *both) putAside(want ...[]byte) {
	p.t.Helper()
	if l := p.office.Bad(); !slices.EqualFunc(l, want, bytes.Equal) {
		p.t.Fatalf("Bad: %x, not %x", l, want)
	}
}

func madeWith(t *testing.T, secret string, f api.Frame) []byte {
	t.Helper()
	x, e := link.Make(secret, f)
	if e != api.OK {
		t.Fatalf("Make: %d", e)
	}
	return x
}

// frame is one with these items, the first one's number being seq.
func frame(base, seq int, l ...[]byte) api.Frame {
	return api.Frame{Kind: api.FrameItems, Base: base, Seq: seq, Items: l}
}

// otherFrames are one of each other kind.
func otherFrames() []api.Frame {
	return []api.Frame{{Kind: api.FrameAck}, {Kind: api.FrameAck, Seq: 1}, {Kind: api.FrameHave}, {Kind: api.FrameHave, Seq: 3}, {Kind: api.FrameDelta}, {Kind: api.FrameDelta, Bytes: []byte("delta")}}
}

// tap is one of the device 7; its token is a letter, eight times.
func tap(counter int, letter string, time int) api.Tap {
	return api.Tap{Device: 7, Counter: counter, Token: strings.Repeat(letter, 8), Kind: 1, Place: 3, Time: time}
}

// seals are those that were made, by their taps: for the sake of time.
var seals sync.Map

// sealed is a tap as its device seals it.
func sealed(t api.Tap) []byte {
	x, is := seals.Load(t)
	if !is {
		x = slowSeal(slowKey("k", t.Device), slowTap(t))
		seals.Store(t, x)
	}
	return bytes.Clone(x.([]byte))
}

// numbered is a token of its own for each number.
func numbered(n int) string { return fmt.Sprintf("%08d", n) }

// laid is a disk with a store that has entries, a key and a value each, and nothing else.
func laid(t *testing.T, sectors int, l ...string) *block.Hand {
	t.Helper()
	h := block.New(sectors)
	s, err := store.Open(h.Disk())
	if err != nil {
		t.Fatal(err)
	}
	d := s.Begin()
	for i := 0; i < len(l); i += 2 {
		if e := d.Put(l[i], l[i+1]); e != api.OK {
			t.Fatal(e)
		}
	}
	if err := s.Commit(d); err != nil {
		t.Fatal(err)
	}
	return h
}

// logged is a disk with a log of these records.
func logged(t *testing.T, sectors int, records ...[]byte) *block.Hand {
	t.Helper()
	h := block.New(sectors)
	log, _, err := wal.Open(h.Disk())
	if err == nil {
		err = log.Rewrite(records)
	}
	if err != nil {
		t.Fatal(err)
	}
	return h
}

// refused holds that a disk is not opened.
func refused(t *testing.T, h *block.Hand, setup api.Office, want api.Errno) {
	t.Helper()
	if o, err := ingest.Open(h.Disk(), setup); o != nil || api.Number(err) != want {
		t.Fatalf("Open(%d bytes, %.40v): %v, %v, not %d", len(setup.Secret), fmt.Sprint(setup.Hubs), o, err, want)
	}
}

// copied is another disk on which the same stands.
func copied(h *block.Hand) *block.Hand {
	sectors := h.Disk().Sectors()
	other := block.New(sectors)
	for at := range sectors {
		if x := h.Sector(at); slices.Max(x) > 0 {
			other.Plant(at, x)
		}
	}
	return other
}
