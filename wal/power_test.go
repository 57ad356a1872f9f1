package wal_test

import (
	"bytes"
	"fmt"
	"math/rand"
	"slices"
	"testing"

	"farebox/api"
	"farebox/block"
	"farebox/wal"
)

// Here P9.8 stands alone, without the slow log: what may be found follows from what was asked and answered.

// step is a call of a log: an Append of the one record, a Rewrite of all, a Sync, or an Open.
type step struct {
	kind    byte // 'a', 'r', 's', 'o'
	records [][]byte
}

// history is what was asked of a log on a disk, and what may be found on it.
type history struct {
	hand    *block.Hand
	log     *wal.Log
	records [][]byte // that there are
	safe    int      // how many of them were there at the last Sync that was answered
	under   step     // what was under way when the power went; no kind: nothing
}

// do carries a step out; false: the power went.
func (h *history) do(t *testing.T, s step) bool {
	t.Helper()
	var err error
	var got [][]byte
	switch s.kind {
	case 'a':
		err = h.log.Append(s.records[0])
	case 'r':
		err = h.log.Rewrite(s.records)
	case 's':
		err = h.log.Sync()
	case 'o':
		h.log, got, err = wal.Open(h.hand.Disk())
		if err == nil && !sameRecords(got, h.records) {
			t.Fatalf("with power: %s, not %s", short(got), short(h.records))
		}
	}
	switch e := api.Number(err); {
	case e == api.ErrDown && h.hand.Down():
		h.under = s
		return false
	case e == api.ErrWalFull:
		return true
	case e != api.OK:
		t.Fatalf("%c: %v", s.kind, err)
	}
	switch s.kind {
	case 'a':
		h.records = append(h.records[:len(h.records):len(h.records)], s.records[0])
		return true
	case 'r':
		h.records = s.records
	}
	h.safe = len(h.records)
	return true
}

// mayTell says whether Open may tell these records, behind a loss of power.
func (h *history) mayTell(got [][]byte) bool {
	all := h.records
	if h.under.kind == 'a' {
		all = append(all[:len(all):len(all)], h.under.records[0])
	}
	if h.under.kind == 'r' && sameRecords(got, h.under.records) {
		return true
	}
	return len(got) >= h.safe && len(got) <= len(all) && sameRecords(got, all[:len(got)])
}

// found opens the disk behind a loss of power; what is told is what there is from then on.
func (h *history) found(t *testing.T, what string) [][]byte {
	t.Helper()
	log, got, err := wal.Open(h.hand.Disk())
	if err != nil || !h.mayTell(got) {
		t.Fatalf("%s: %s, %v; there were %s, safe %d, under way %q %s", what, short(got), err, short(h.records), h.safe, h.under.kind, short(h.under.records))
	}
	h.log, h.records, h.safe, h.under = log, cloned(got), len(got), step{}
	return got
}

// goesAt plays steps on a new disk, with the power going at an act; nil: there are not so many.
func goesAt(t *testing.T, sectors int, steps []step, acts int, done bool) *history {
	t.Helper()
	h := &history{hand: block.New(sectors)}
	h.hand.Arm(acts, done)
	for _, s := range steps {
		if !h.do(t, s) {
			return h
		}
	}
	return nil
}

// copied is another disk on which the same stands, all of it safe.
func copied(h *block.Hand, sectors int) *block.Hand {
	c := block.New(sectors)
	for i := range sectors {
		c.Plant(i, h.Sector(i))
	}
	return c
}

// subsets are all ways in which so many writes may stay.
func subsets(many int) [][]bool {
	l := [][]bool{nil}
	for range many {
		var next [][]bool
		for _, keep := range l {
			next = append(next, append(slices.Clone(keep), false), append(slices.Clone(keep), true))
		}
		l = next
	}
	return l
}

// everywhere lets the power go at each act of some steps, with each choice of writes that stay; then again at each act of the Open behind it.
func everywhere(t *testing.T, sectors int, steps []step) (losses int) {
	t.Helper()
	for acts := 0; ; acts++ {
		for _, done := range []bool{false, true} {
			h := goesAt(t, sectors, steps, acts, done)
			if h == nil {
				return losses
			}
			for _, keep := range subsets(h.hand.Waiting()) {
				h := goesAt(t, sectors, steps, acts, done)
				h.hand.Crash(keep)
				left := copied(h.hand, sectors)
				told := h.found(t, fmt.Sprintf("act %d, %v, kept %v", acts, done, keep))
				losses++
				again(t, left, sectors, told)
			}
		}
	}
}

// again lets the power go at each act of an Open: the next one tells just what there was.
func again(t *testing.T, left *block.Hand, sectors int, told [][]byte) {
	t.Helper()
	for acts := 0; ; acts++ {
		for _, done := range []bool{false, true} {
			h := copied(left, sectors)
			h.Arm(acts, done)
			if _, _, err := wal.Open(h.Disk()); err == nil {
				return
			}
			waiting := h.Waiting()
			for i, keep := range keeps(waiting) {
				if i > 0 {
					h = copied(left, sectors)
					h.Arm(acts, done)
					wal.Open(h.Disk())
				}
				h.Crash(keep)
				if _, got, err := wal.Open(h.Disk()); err != nil || !sameRecords(got, told) {
					t.Fatalf("behind an Open without power at act %d: %s, %v, not %s", acts, short(got), err, short(told))
				}
			}
		}
	}
}

func appends(records ...[]byte) (l []step) {
	for _, b := range records {
		l = append(l, step{'a', [][]byte{b}})
	}
	return l
}

func steps(l ...[]step) (all []step) {
	for _, s := range l {
		all = append(all, s...)
	}
	return all
}

var (
	syncs = []step{{kind: 's'}}
	opens = []step{{kind: 'o'}}
)

func rewrites(records ...[]byte) []step { return []step{{'r', records}} }

// P9.8: records over one and over more sectors, Syncs and Rewrites among them.
func TestPowerEverywhere(t *testing.T) {
	t.Parallel()
	for sectors, l := range map[int][]step{
		4: steps(opens, appends([]byte("a"), sized(400)), syncs, appends([]byte("b"), nil), rewrites([]byte("c"), nil), appends([]byte("d")), syncs, appends(sized(300)), rewrites(), appends([]byte("e"))),
		8: steps(opens, appends([]byte("a"), sized(700)), syncs, appends([]byte("b")), appends(sized(485)), rewrites(sized(3), sized(700)), appends(sized(5)), syncs, appends(sized(600)), rewrites(), appends(sized(900)), opens, appends([]byte("z"))),
		9: steps(opens, appends(sized(492), sized(492)), rewrites(sized(492)), rewrites(sized(1500)), rewrites(), rewrites(sized(1), sized(480), sized(2)), appends(sized(2)), syncs, syncs, opens, opens),
	} {
		if losses := everywhere(t, sectors, l); losses < 60 {
			t.Errorf("%d sectors: only %d losses of power", sectors, losses)
		}
	}
}

// lookalike is a record of a frame at some place; in it, and at the beginning of each sector's part, stands what would be heads, stamps, and frames of a record that is none.
func lookalike(place, ahead int, g uint64) []byte {
	var b []byte
	for len(b) < 1100 {
		at := place + 12 + len(b)
		switch {
		case at%504 == 0:
			b = append(b, slowFrame([]byte("never"), ahead)...)
		case at%504 > 450:
			b = append(b, 0)
		case len(b)%3 == 0:
			b = append(b, slowFrame([]byte("never"), ahead)...)
		case len(b)%3 == 1:
			b = append(b, slowHead(g, byte(g%2))[:17]...)
		default:
			b = append(b, eight(g)...)
		}
	}
	return b
}

// P9.8: records whose bytes look like frames of further records, like heads and stamps, of this G and of the next ones, are not found as such.
func TestPowerWithLookalikes(t *testing.T) {
	t.Parallel()
	l := opens
	for g := range uint64(2) {
		first, second := lookalike(0, 1, g+1), lookalike(12+1100, 2, g+2)
		l = steps(l, rewrites(first), appends(second), syncs, appends(slowHead(g+2, 0)))
	}
	everywhere(t, 16, l)
	bare := sector(eight(2), slowFrame([]byte("never"), 0))
	everywhere(t, 12, steps(opens, appends(slowHead(9, 1), bare), rewrites(bare, slowHead(2, 0)), syncs, appends(bare[8:])))
}

// P9.8, P9.9: a lookalike that fills the sectors of a half to their ends, and is let go, is nothing to the next ones.
func TestRemainsOfLookalikes(t *testing.T) {
	p := opened(t, 8)
	for range 9 {
		g := uint64(p.slow.g)
		b := bytes.Join([][]byte{make([]byte, 492), sector(slowFrame([]byte("never"), 1))[:504], sector(slowFrame([]byte("never"), 1))[:504]}, nil)
		p.want(p.rewrite(b), api.OK)
		p.want(p.rewrite(sized(485)), api.OK)
		p.told(sized(485))
		p.want(p.append(slowHead(g+3, 0)[:400]), api.OK)
		p.told(sized(485), slowHead(g+3, 0)[:400])
	}
}

// P9.8: a log's long life: any calls, the power going at any act, again and again, any writes staying.
func TestPowerAgainAndAgain(t *testing.T) {
	rnd := rand.New(rand.NewSource(97))
	lost := map[byte]int{}
	for range 150 {
		h := &history{hand: block.New(4 + rnd.Intn(12))}
		h.do(t, step{kind: 'o'})
		for range 30 {
			h.hand.Arm(rnd.Intn(12), rnd.Intn(2) == 0)
			for h.do(t, someStep(rnd)) {
			}
			lost[h.under.kind]++
			for rnd.Intn(2) == 0 {
				h.hand.Crash(someKeep(rnd, h.hand.Waiting()))
				h.hand.Arm(rnd.Intn(6), rnd.Intn(2) == 0)
				if _, got, err := wal.Open(h.hand.Disk()); err == nil {
					h.mustTell(t, got)
					h.records, h.safe, h.under = cloned(got), len(got), step{}
				}
			}
			h.hand.Crash(someKeep(rnd, h.hand.Waiting()))
			h.found(t, "again")
		}
	}
	for _, kind := range []byte("arso") {
		if lost[kind] < 100 {
			t.Errorf("%c was under way %d times", kind, lost[kind])
		}
	}
}

func (h *history) mustTell(t *testing.T, got [][]byte) {
	t.Helper()
	if !h.mayTell(got) {
		t.Fatalf("%s; there were %s, safe %d, under way %q", short(got), short(h.records), h.safe, h.under.kind)
	}
}

func someStep(rnd *rand.Rand) step {
	switch n := rnd.Intn(12); {
	case n < 6:
		return step{'a', [][]byte{someRecord(rnd)}}
	case n < 8:
		return step{kind: 's'}
	case n < 10:
		return step{'r', someRecords(rnd)}
	}
	return step{kind: 'o'}
}

// P9.8, against the slow log: the same disk behind each loss, and the same told.
func TestPowerAgainstTheSlowLog(t *testing.T) {
	rnd := rand.New(rand.NewSource(98))
	for range 150 {
		p := opened(t, 4+rnd.Intn(12))
		for range 25 {
			p.arm(rnd.Intn(12), rnd.Intn(2) == 0)
			for p.log != nil && !p.hand.Down() {
				switch s := someStep(rnd); s.kind {
				case 'a':
					p.append(s.records[0])
				case 'r':
					p.rewrite(s.records...)
				case 's':
					p.sync()
				case 'o':
					p.opens()
				}
			}
			p.crash(someKeep(rnd, p.hand.Waiting()))
			p.opens()
		}
	}
}
