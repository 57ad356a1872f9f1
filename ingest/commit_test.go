package ingest_test

import (
	"maps"
	"math/rand"
	"slices"
	"strings"
	"testing"

	"farebox/api"
	"farebox/store"
)

// wantCommit holds Commit of a draft against an error; both are alike then.
func (p *both) wantCommit(d *store.Draft, want api.Errno) {
	p.t.Helper()
	if err := p.office.Commit(d); api.Number(err) != want || (err == nil) != (want == api.OK) {
		p.t.Fatalf("Commit: %v, not %d", err, want)
	}
	p.alike("Commit")
}

// P16.3: a draft is one of all that there is; nothing is done before it is committed.
func TestBegin(t *testing.T) {
	p := some(t)
	d := p.office.Begin()
	if !maps.Equal(entriesOf(d), p.slow.entries) || len(d.Edits()) != 0 || d.Len() != len(p.slow.entries) {
		t.Fatalf("%q", entriesOf(d))
	}
	for key := range entriesOf(d) {
		d.Delete(key)
	}
	d.Put("t", "1")
	p.alike("a draft")
	other := p.office.Begin()
	if !maps.Equal(entriesOf(other), p.slow.entries) {
		t.Fatalf("%q", entriesOf(other))
	}
	p.again()
	p.loses()
}

// P16.3: what is committed is there, and safe.
func TestCommit(t *testing.T) {
	p := opened(t, plain(), 20)
	if e := p.commits("a", "1", "b", "2"); e != api.OK {
		t.Fatal(e)
	}
	if p.hand.Waiting() != 0 {
		t.Errorf("%d writes wait", p.hand.Waiting())
	}
	p.loses()
	p.commits("-a", "", "b", "3", "c", "")
	p.loses()
	if got := entriesOf(p.office.Begin()); !maps.Equal(got, map[string]string{"b": "3", "c": ""}) {
		t.Errorf("%q", got)
	}
}

// P16.3: a draft gets stale by a batch, of another draft or of a frame; not by a frame that changes nothing, nor by a draft without a batch. That of another office always was.
func TestCommitStale(t *testing.T) {
	p := opened(t, plain(), 8)
	x := sealed(tap(1, "a", 1))
	begun := func() *store.Draft {
		d := p.office.Begin()
		d.Put("a", "stale")
		return d
	}
	d := begun()
	p.sends(x)
	p.wantCommit(d, api.ErrStoreStale)
	d = begun()
	p.sends([]byte("bad"))
	p.wantCommit(d, api.ErrStoreStale)
	d = begun()
	p.commits("b", "2")
	p.wantCommit(d, api.ErrStoreStale)
	p.wantCommit(d.Clone(), api.ErrStoreStale)
	other := opened(t, plain(), 8)
	d = other.office.Begin()
	p.wantCommit(d, api.ErrStoreStale)
	d.Put("a", strings.Repeat("v", 9000))
	p.wantCommit(d, api.ErrStoreStale)
	d = begun()
	p.again()
	p.wantCommit(d, api.ErrStoreStale)
	p.has(tap(1, "a", 1))
	p.putAside([]byte("bad"))

	d = p.office.Begin()
	d.Put("c", "3")
	p.sends(x)
	p.takes(20, frame(9, 10, x), 8)
	p.refuses(20, api.Frame{Kind: api.FrameHave}, api.ErrLinkForm)
	p.refuses(21, frame(1, 1, x), api.ErrIngestHub)
	p.refuses(20, frame(9, 9, slices.Repeat([][]byte{make([]byte, 256)}, 8)...), api.ErrBig)
	p.wantCommit(p.office.Begin(), api.OK)
	p.slow.entries = maps.Clone(p.slow.entries)
	p.slow.entries["c"] = "3"
	p.wantCommit(d, api.OK)
	p.wantCommit(d, api.ErrStoreStale)
	p.again()
}

// P16.3: a draft that has no room, at the edges of it; nothing has changed, and the office is not dead.
func TestCommitWithoutRoom(t *testing.T) {
	for _, sectors := range []int{4, 5, 6, 20} {
		p := opened(t, plain(), sectors)
		x := sealed(tap(1, "a", 1))
		p.sends(x)
		room := slowRoom(sectors)
		for _, z := range []struct {
			size int
			want api.Errno
		}{{room + 1, api.ErrBig}, {room, api.ErrFull}, {room - 57 + 1, api.ErrFull}, {room - 57, api.OK}} {
			if e := p.commits("b", strings.Repeat("v", z.size-6)); e != z.want {
				t.Errorf("%d sectors, %d more: %d, not %d", sectors, z.size, e, z.want)
			}
		}
		if p.office.Dead() {
			t.Error("it is dead")
		}
		p.loses()
		p.refuses(20, frame(1, 1, nil), api.ErrFull)
		p.commits("-b", "")
		p.sends(nil)
	}
}

// P16.3: a draft without a batch is taken without an act.
func TestCommitOfNothing(t *testing.T) {
	p := some(t)
	p.hand.Arm(0, false)
	d := p.office.Begin()
	for range 3 {
		p.wantCommit(d, api.OK)
	}
	if p.commits("a", "1", "z", "2") != api.OK || p.hand.Down() {
		t.Error("there was an act")
	}
}

// P16.3, P16.4: entries of keys that begin with other letters stand beside those of taps, and change none of the answers.
func TestEntriesBeside(t *testing.T) {
	rnd := rand.New(rand.NewSource(165))
	alone, beside := opened(t, two(), 400), opened(t, two(), 400)
	var letters []string
	for n := range 256 {
		if c := string([]byte{byte(n)}); !strings.Contains("txq", c) {
			letters = append(letters, c)
		}
	}
	right := tap(1, "a", 1)
	var l []string
	for i, c := range letters {
		if c != "-" {
			l = append(l, c, "", c+slowTapKey(right)[1:], string(slowTap(right)), c+slowBadKey(uint64(i))[1:], "bad", c+slowCounterKey(right)[1:], "")
		}
	}
	beside.commits(l...)
	for n := range 60 {
		var items [][]byte
		for range 1 + rnd.Intn(5) {
			items = append(items, someItem(rnd))
		}
		for _, p := range []*both{alone, beside} {
			seq := max(p.slow.next[20], 1)
			p.takes(20, frame(1, seq, items...), seq+len(items)-1)
		}
		beside.commits(letters[rnd.Intn(len(letters))]+"more", strings.Repeat("v", n))
		beside.has(alone.office.Taps()...)
		beside.putAside(alone.office.Bad()...)
	}
	beside.again()
	beside.has(alone.office.Taps()...)
	beside.putAside(alone.office.Bad()...)
	if len(alone.office.Taps()) < 20 || len(alone.office.Bad()) < 20 {
		t.Errorf("%d taps, %d bad", len(alone.office.Taps()), len(alone.office.Bad()))
	}
}

// P16.3: batches of a later layer and frames, one behind another: each finds what the others left.
func TestCommitAndGot(t *testing.T) {
	p := opened(t, plain(), 200)
	for n := range 50 {
		p.sends(sealed(tap(n+1, "a", n)), []byte{byte(n)})
		p.commits("s"+numbered(n), numbered(len(p.office.Taps())), "-s"+numbered(n-3), "")
		if n%7 == 0 {
			p.loses()
		}
	}
	if n, m := len(p.office.Taps()), len(p.office.Bad()); n != 50 || m != 50 {
		t.Errorf("%d taps, %d bad", n, m)
	}
}
