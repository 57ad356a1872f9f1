package ingest_test

import (
	"bytes"
	"math"
	"math/rand"
	"slices"
	"strings"
	"testing"

	"farebox/api"
	"farebox/block"
	"farebox/ingest"
	"farebox/queue"
	"farebox/wal"
)

// P16.1: each field of a set-up at its edges.
func TestOpenSetups(t *testing.T) {
	hubs := func(l ...int) api.Office { return api.Office{Secret: "k", Hubs: l} }
	secret := func(n int) api.Office { return api.Office{Secret: strings.Repeat("k", n), Hubs: []int{20}} }
	for _, s := range []api.Office{secret(0), secret(1), secret(64), secret(65), secret(199), secret(200), hubs(1), hubs(65535), hubs(65534, 65535), hubs(2, 1), hubs(1, 2, 3, 4), hubs(4, 65535, 1, 20)} {
		p := opened(t, s, 10)
		p.has()
		p.putAside()
		for _, hub := range s.Hubs {
			p.takes(hub, frame(1, 1, []byte("a")), 1)
		}
	}
	long := make([]int, 5000)
	for i := range long {
		long[i] = i + 1
	}
	for _, s := range []api.Office{{}, secret(201), secret(256), secret(65736), hubs(), hubs(0), hubs(-1), hubs(math.MinInt), hubs(65536), hubs(65536 + 20), hubs(1<<32 + 20), hubs(math.MaxInt), hubs(1, 0), hubs(1, 65536), hubs(0, 1), hubs(1, 1), hubs(1, 2, 1), hubs(1, 2, 2), hubs(1, 2, 3, 1), hubs(1, 2, 3, 3), hubs(1, 2, 3, 4, 5), hubs(1, 2, 3, 4, 1), hubs(1, 2, 3, 4, 0), hubs(long...)} {
		h := block.New(10)
		h.Arm(0, false)
		refused(t, h, s, api.ErrIngest)
		if h.Down() {
			t.Errorf("%v: there was an act", s.Hubs)
		}
	}
}

// P16.1: disks of any size: there must be 4 to MaxSectors sectors.
func TestOpenSectors(t *testing.T) {
	for _, sectors := range []int{-1, 0, 1, 2, 3, api.MaxSectors + 1, 1 << 30} {
		h := block.New(sectors)
		h.Arm(0, false)
		refused(t, h, plain(), api.ErrArg)
		if h.Down() {
			t.Error("there was an act")
		}
	}
	for _, sectors := range []int{4, 5, 6, 7, 100, api.MaxSectors} {
		p := opened(t, plain(), sectors)
		p.sends(sealed(tap(1, "a", 1)), []byte("bad"))
		p.again()
		p.has(tap(1, "a", 1))
		p.putAside([]byte("bad"))
	}
	h := block.New(20)
	if o, err := ingest.Open(h.Disk().Part(0, 3), plain()); o != nil || api.Number(err) != api.ErrArg {
		t.Errorf("%v", err)
	}
	if _, err := ingest.Open(h.Disk().Part(7, 4), plain()); err != nil {
		t.Errorf("%v", err)
	}
}

// P16.1, W4: which error it is where several would fit: that of the set-up, of the sectors, of the power, of another log.
func TestWhichErrorOfOpen(t *testing.T) {
	down := func(h *block.Hand) *block.Hand {
		h.Arm(0, false)
		h.Disk().Sync()
		return h
	}
	other := func() *block.Hand { return logged(t, 10, []byte("a log")) }
	for _, s := range []api.Office{{}, {Secret: "k"}, {Secret: strings.Repeat("k", 201), Hubs: []int{1}}, {Hubs: []int{1, 1}}} {
		for _, h := range []*block.Hand{block.New(3), down(block.New(3)), down(block.New(10)), other(), down(other()), block.New(10)} {
			refused(t, h, s, api.ErrIngest)
		}
	}
	refused(t, down(block.New(3)), plain(), api.ErrArg)
	refused(t, down(block.New(api.MaxSectors+1)), plain(), api.ErrArg)
	refused(t, down(block.New(4)), plain(), api.ErrDown)
	refused(t, down(other()), plain(), api.ErrDown)
	refused(t, other(), plain(), api.ErrIngest)
}

// some are both of which a part is of each kind: taps, a counter, what was put aside, what others lay there.
func some(t *testing.T) *both {
	t.Helper()
	p := opened(t, two(), 40)
	p.sends(sealed(tap(1, "b", 5)), []byte("bad"), sealed(tap(2, "a", 9)), nil)
	p.takes(30, frame(1, 1, sealed(tap(3, "b", 2)), sealed(tap(3, "b", 3))), 2)
	p.commits("a", "1", "z", "2", "s", "", "u", "", "p", "", "r", "", "w", "", "y", "")
	return p
}

// P16.1: an office that was there is there again, as it was; its receivers know nothing.
func TestOpenAgain(t *testing.T) {
	p := some(t)
	for range 3 {
		p.again()
		p.has(tap(2, "a", 9), tap(3, "b", 2), tap(1, "b", 5))
		p.putAside([]byte("bad"), nil, sealed(tap(3, "b", 3)))
		p.takes(20, frame(1, 3, sealed(tap(2, "a", 9))), 0)
		p.takes(20, frame(2, 2, []byte("bad")), 2)
		p.takes(30, frame(7, 7, sealed(tap(3, "b", 2))), 7)
		p.again()
		p.putAside([]byte("bad"), nil, sealed(tap(3, "b", 3)), []byte("bad"))
		p.loses()
		p.commits("-"+slowBadKey(4), "")
	}
}

// P16.1: an office's disk says nothing of its secret and its hubs: with others it is the same office.
func TestOpenWithAnotherSetup(t *testing.T) {
	p := some(t)
	for _, s := range []api.Office{{Secret: "other", Hubs: []int{20}}, {Hubs: []int{1, 2, 3, 4}}, two()} {
		p.slow.setup = s
		p.again()
		p.has(tap(2, "a", 9), tap(3, "b", 2), tap(1, "b", 5))
		p.refusesBytes(9, nil, api.ErrIngestHub)
		p.takes(s.Hubs[0], frame(1, 2, nil), 0)
	}
	p.slow.setup = api.Office{Secret: "other", Hubs: []int{20}}
	p.again()
	p.sends(sealed(tap(1, "b", 5)))
	p.putAside([]byte("bad"), nil, sealed(tap(3, "b", 3)), sealed(tap(1, "b", 5)))
}

// P16.1: without a log there is an office without entries, whatever bytes stand there; one that was opened, and to which nothing was done, is one, too.
func TestOpenWithoutAnOffice(t *testing.T) {
	rnd := rand.New(rand.NewSource(161))
	for i := range 20 {
		h := block.New(12)
		for at := range 12 {
			x := bytes.Repeat([]byte{byte(i)}, 512)
			if i%2 == 0 {
				rnd.Read(x)
			}
			h.Plant(at, x)
		}
		p := openedOn(t, h, newSlow(plain(), 12))
		p.again()
		p.loses()
		p.has()
		p.putAside()
		p.sends(sealed(tap(1, "a", 1)), []byte("bad"))
		p.again()
		p.has(tap(1, "a", 1))
	}
}

// no are disks of 10 sectors with logs that are no store's, each with what it is.
func no(t *testing.T) map[string]*block.Hand {
	t.Helper()
	l := map[string]*block.Hand{
		"another log":      logged(t, 10, []byte("a log")),
		"an empty record":  logged(t, 10, nil),
		"many records":     logged(t, 10, []byte("a"), []byte("b"), []byte("c")),
		"a store's mark":   logged(t, 10, []byte("FBST")),
		"a batch too long": logged(t, 10, []byte("FBST\xff\xff\xff\xff\xff\xff\xff\xff")),
	}
	q := block.New(queue.Sectors(2))
	opened, err := queue.Open(q.Disk(), 2)
	if err != nil {
		t.Fatal(err)
	}
	opened.Put([]byte("a"))
	opened.Sync()
	l["a queue"] = q
	store := laid(t, 10, "a", "1")
	_, records, _ := wal.Open(store.Disk())
	l["a store, and another record"] = logged(t, 10, append(records, []byte("a"))...)
	great := laid(t, 12, strings.Repeat("k", 200), strings.Repeat("v", 790))
	_, records, _ = wal.Open(great.Disk())
	l["a store with too much"] = logged(t, 10, records...)
	return l
}

// P16.1: a log on the disk that is no store's: it is refused, and stays; where the power goes meanwhile it is ErrDown.
func TestOpenOfOtherThings(t *testing.T) {
	for what, h := range no(t) {
		_, before, _ := wal.Open(h.Disk())
		for range 3 {
			if o, err := ingest.Open(h.Disk(), plain()); o != nil || api.Number(err) != api.ErrIngest {
				t.Errorf("%s: %v, %v", what, o, err)
			}
		}
		if _, after, _ := wal.Open(h.Disk()); !slices.EqualFunc(before, after, bytes.Equal) {
			t.Errorf("%s: it was changed", what)
		}
		for acts := 0; ; acts++ {
			h := copied(h)
			h.Arm(acts, acts%2 == 0)
			_, err := ingest.Open(h.Disk(), plain())
			if !h.Down() {
				break
			}
			if api.Number(err) != api.ErrDown {
				t.Errorf("%s: the power goes at act %d: %v", what, acts, err)
			}
			h.Crash(slices.Repeat([]bool{acts%3 == 0}, h.Waiting()))
			refused(t, h, plain(), api.ErrIngest)
		}
		h.Arm(0, false)
		h.Disk().Sync()
		refused(t, h, plain(), api.ErrDown)
	}
}

// P16.1: any store is an office, also one with entries that no office would lay: no call panics on it, and what is none is not told.
func TestOpenOfOthersStores(t *testing.T) {
	right := tap(1, "a", 1)
	key := slowTapKey(right)
	for _, l := range [][]string{
		{"a", "1"}, {"t", ""}, {"t", "1"}, {"taaaaaaaa", ""}, {"x", ""}, {"q", "1"}, {"q1234567", "1"}, {"q123456789", "1"},
		{key, ""}, {key, string(slowTap(tap(2, "a", 1)))}, {key, string(slowTap(right)) + "\x00"}, {key + "\x00", string(slowTap(right))}, {key[:18], string(slowTap(right))},
		{strings.Repeat("t", 200), strings.Repeat("t", 16384)}, {strings.Repeat("q", 200), ""}, {strings.Repeat("x", 200), ""},
	} {
		slow := newSlow(plain(), 200)
		slow.entries[l[0]] = l[1]
		p := openedOn(t, laid(t, 200, l...), slow)
		p.has()
		p.putAside()
		p.sends(sealed(right), sealed(tap(2, "a", 1)), sealed(tap(2, "a", 2)), []byte("bad"))
		p.again()
	}
}

// P16.1: what is damaged on an office's disk, in any sector: Open ends, and what it tells is what was there behind one of its batches, or nothing.
func TestOpenOfDamagedDisks(t *testing.T) {
	rnd := rand.New(rand.NewSource(162))
	p := opened(t, plain(), 40)
	states := []string{""}
	told := func(o *ingest.Office) string {
		var l []string
		for _, x := range o.Taps() {
			l = append(l, string(slowTap(x)))
		}
		return strings.Join(l, "") + string(bytes.Join(o.Bad(), nil))
	}
	for n := range 9 {
		p.sends(sealed(tap(n+1, "a", n)), []byte{byte(n)}, sealed(tap(n+1, "a", n+1)))
		states = append(states, told(p.office))
	}
	found := map[string]int{}
	for range 300 {
		h := copied(p.hand)
		for range 1 + rnd.Intn(2) {
			at := rnd.Intn(12)
			x := h.Sector(at)
			x[rnd.Intn(512)] ^= byte(1 + rnd.Intn(255))
			h.Plant(at, x)
		}
		o, err := ingest.Open(h.Disk(), plain())
		if e := api.Number(err); e != api.OK && e != api.ErrIngest {
			t.Fatalf("Open: %v", err)
		}
		if err == nil {
			if !slices.Contains(states, told(o)) {
				t.Fatalf("%v, %q", o.Taps(), o.Bad())
			}
			found[told(o)]++
		}
	}
	if len(found) < 3 {
		t.Errorf("%d states", len(found))
	}
}

// P16.1: an act is refused at each place, on a disk with each kind of thing: ErrDown; behind a loss of power all is as it was.
func TestOpenAtEachAct(t *testing.T) {
	for i, p := range []*both{some(t), opened(t, plain(), 10), {t: t, hand: block.New(10), slow: newSlow(plain(), 10)}} {
		acts := 0
		for ; ; acts++ {
			h := copied(p.hand)
			h.Arm(acts, acts%2 == 0)
			o, err := ingest.Open(h.Disk(), p.slow.setup)
			if !h.Down() {
				break
			}
			if o != nil || api.Number(err) != api.ErrDown {
				t.Fatalf("%d: act %d was refused: %v", i, acts, err)
			}
			refused(t, h, p.slow.setup, api.ErrDown)
			h.Crash(slices.Repeat([]bool{acts%3 == 0}, h.Waiting()))
			openedOn(t, h, p.slow.clone())
		}
		if acts < 2 {
			t.Errorf("%d: %d acts", i, acts)
		}
	}
}
