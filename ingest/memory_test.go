package ingest_test

import (
	"bytes"
	"math/rand"
	"slices"
	"strings"
	"testing"
	"unsafe"

	"farebox/api"
	"farebox/block"
	"farebox/ingest"
)

// loose is a text whose bytes can be changed: who keeps it is found out.
func loose(s string) (string, []byte) {
	x := []byte(s)
	return unsafe.String(unsafe.SliceData(x), len(x)), x
}

// mark puts a mark everywhere, into the spare room too.
func mark(x []byte) {
	for i := range x[:cap(x)] {
		x[:cap(x)][i] = 'z'
	}
}

// P16.5: the set-up's secret and its hubs are neither changed, nor their spare room, nor kept.
func TestSetupHandedIn(t *testing.T) {
	secret, x := loose("k")
	hubs := []int{20, 30, 5, 6}[:2]
	h := block.New(20)
	o, err := ingest.Open(h.Disk(), api.Office{Secret: secret, Hubs: hubs})
	if err != nil || secret != "k" || !slices.Equal(hubs[:4], []int{20, 30, 5, 6}) {
		t.Fatal(err)
	}
	mark(x)
	copy(hubs[:4], []int{1, 2, 3, 4})
	p := &both{t: t, hand: h, office: o, slow: newSlow(two(), 20)}
	p.takes(20, frame(1, 1, sealed(tap(1, "a", 1))), 1)
	p.takes(30, frame(1, 1, sealed(tap(2, "a", 1))), 1)
	p.refuses(1, frame(1, 1, nil), api.ErrIngestHub)
	p.refuses(5, frame(1, 1, nil), api.ErrIngestHub)
	p.has(tap(1, "a", 1), tap(2, "a", 1))
	p.again()
	hubs = []int{7, 7, 8}[:2]
	refused(t, h, api.Office{Secret: "k", Hubs: hubs}, api.ErrIngest)
	if !slices.Equal(hubs[:3], []int{7, 7, 8}) {
		t.Error("what was handed in was changed")
	}
}

// spare are the same bytes with spare room behind them.
func spare(x []byte) []byte { return append(bytes.Clone(x), 1, 2, 3, 4)[:len(x)] }

// P16.5: frames that are handed in are neither changed, nor their spare room, nor kept.
func TestFramesHandedIn(t *testing.T) {
	p := opened(t, two(), 40)
	secret := p.slow.secret(20)
	spoilt := madeWith(t, secret, frame(1, 4, nil))
	spoilt[2]++
	l := [][]byte{spoilt, nil, madeWith(t, secret, otherFrames()[2])}
	for _, f := range []api.Frame{frame(1, 1, sealed(tap(1, "a", 1)), []byte("bad"), sealed(tap(1, "b", 1))), frame(1, 1, sealed(tap(1, "a", 1))), frame(1, 9, []byte("late")), frame(1, 4, sealed(tap(2, "a", 2)), make([]byte, 256))} {
		l = append(l, madeWith(t, secret, f))
	}
	for _, frame := range l {
		for _, hub := range []int{20, 30, 21} {
			x := spare(frame)
			before := bytes.Clone(x[:cap(x)])
			p.got(hub, x)
			if !bytes.Equal(before, x[:cap(x)]) {
				t.Fatal("what was handed in was changed")
			}
			mark(x)
			p.alike("other bytes")
		}
	}
	p.has(tap(1, "a", 1), tap(2, "a", 2))
	p.putAside([]byte("bad"), sealed(tap(1, "b", 1)), make([]byte, 256))
	p.again()
}

// P16.5: a draft that was committed may be changed further, and so may the texts that were put into it: the office does not see it.
func TestDraftsHandedIn(t *testing.T) {
	p := some(t)
	key, k := loose("key")
	value, v := loose("value")
	d := p.office.Begin()
	d.Put(key, value)
	p.slow.entries["key"] = "value"
	p.wantCommit(d, api.OK)
	mark(k)
	mark(v)
	p.alike("other texts")
	d.Put("b", "2")
	d.Delete("a")
	for x := range entriesOf(d) {
		d.Delete(x)
	}
	p.alike("a change of the draft")
	p.sends(nil)
	p.again()
}

// P16.5, W6: whatever is done to the taps and the bad items that are answered, the office is as it was, and so are the others; of a dead office, too.
func TestListsHandedOut(t *testing.T) {
	p := some(t)
	look := func() {
		t.Helper()
		taps, others := p.office.Taps(), p.office.Taps()
		for i := range taps[:cap(taps)] {
			taps[:cap(taps)][i] = api.Tap{Device: -1}
		}
		if !slices.Equal(others, p.slow.taps()) {
			t.Fatal("two answers share memory")
		}
		for _, x := range others {
			b := unsafe.Slice(unsafe.StringData(x.Token), len(x.Token))
			for key, value := range p.office.Begin().All("", "") {
				if inside(b, key) || inside(b, value) {
					t.Fatal("a token shares memory with what is kept")
				}
			}
		}
		l, other := p.office.Bad(), p.office.Bad()
		want := p.slow.bad()
		for i := range l {
			mark(l[i])
			if !slices.EqualFunc(l[i+1:], want[i+1:], bytes.Equal) {
				t.Fatal("two items share memory")
			}
			l[i] = append(l[i], "more"...)
		}
		for i := range l[:cap(l)] {
			l[:cap(l)][i] = nil
		}
		if !slices.EqualFunc(other, want, bytes.Equal) {
			t.Fatal("two answers share memory")
		}
		p.alike("a change of what was answered")
	}
	look()
	p.again()
	look()
	p.hand.Arm(1, false)
	p.refuses(20, frame(9, 9, sealed(tap(20, "a", 1)), nil), api.ErrDown)
	look()
	p.loses(false)
}

// inside tells whether bytes stand within those of a text.
func inside(b []byte, s string) bool {
	at := uintptr(unsafe.Pointer(unsafe.SliceData(b)))
	from := uintptr(unsafe.Pointer(unsafe.StringData(s)))
	return at >= from && at < from+uintptr(len(s))
}

// P16.5: what was answered stays as it was, whatever comes.
func TestOldAnswersStay(t *testing.T) {
	p := some(t)
	taps, bad, d := p.office.Taps(), p.office.Bad(), p.office.Begin()
	wantTaps, wantBad, wantEntries := p.slow.taps(), p.slow.bad(), p.slow.entries
	for n := range 20 {
		p.sends(sealed(tap(100+n, "a", n)), []byte{byte(n)})
		p.commits("a", strings.Repeat("v", n))
	}
	if !slices.Equal(taps, wantTaps) || !slices.EqualFunc(bad, wantBad, bytes.Equal) {
		t.Error("an answer from before was changed")
	}
	got := entriesOf(d)
	for key, value := range wantEntries {
		if got[key] != value {
			t.Errorf("a draft from before: %q has %q", key, got[key])
		}
	}
	if len(got) != len(wantEntries) {
		t.Errorf("%d entries", len(got))
	}
}

// P16.5, W6: likewise the frame that answers.
func TestAnswersHandedOut(t *testing.T) {
	p := opened(t, plain(), 20)
	for n := range 5 {
		l, _ := p.got(20, madeWith(t, p.slow.secret(20), frame(1, n+1, []byte{byte(n)})))
		for i := range l[:cap(l)] {
			mark(l[:cap(l)][i])
		}
		p.takes(20, frame(1, 1, nil), n+1)
	}
}

// W2: offices apart do not see each other; two to which the same is done are alike, sector by sector.
func TestOfficesApart(t *testing.T) {
	rnd := rand.New(rand.NewSource(166))
	one, other, third := opened(t, two(), 60), opened(t, two(), 60), opened(t, two(), 60)
	for n := range 50 {
		l := [][]byte{someItem(rnd), someItem(rnd), someItem(rnd)}
		for _, p := range []*both{one, other} {
			p.takes(20, frame(1, 1+2*n, l...), 3+2*n)
			p.commits("a", numbered(n))
		}
		third.takes(30, frame(n+1, n+1, []byte("y")), n+1)
	}
	for at := range 60 {
		if !bytes.Equal(one.hand.Sector(at), other.hand.Sector(at)) {
			t.Errorf("the sector %d", at)
		}
	}
	one.hand.Arm(0, false)
	if one.commits("a", "") != api.ErrDown || other.commits("a", "") != api.OK {
		t.Error("they see each other")
	}
	third.has()
}
