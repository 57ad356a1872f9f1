package store_test

import (
	"fmt"
	"math/rand"
	"slices"
	"strings"
	"testing"

	"farebox/api"
	"farebox/block"
	"farebox/store"
)

// Here P11.7 stands alone: what may be found follows from what was asked and answered.

// step is a call of a store: a Commit of some edits, or, without any, an Open.
type step []api.Edit

// history is what was asked of a store on a disk: how it was behind the last Commit that was answered, and how it would be behind the one under way.
type history struct {
	hand      *block.Hand
	store     *store.Store
	was, next entries
}

func begun(sectors int) *history {
	return &history{hand: block.New(sectors), was: entries{}, next: entries{}}
}

// do carries a step out; false: the power went.
func (h *history) do(t *testing.T, s step) bool {
	t.Helper()
	var err error
	h.next = h.was
	if s == nil {
		h.store, err = store.Open(h.hand.Disk())
	} else {
		d := h.store.Begin()
		for _, e := range s {
			if e.Gone {
				d.Delete(e.Key)
			} else {
				d.Put(e.Key, e.Value)
			}
		}
		if room := slowRoom(h.hand.Disk().Sectors()); d.Size() > room || counted(d.Edits()) > room {
			return true
		}
		h.next = h.was.behind(s)
		err = h.store.Commit(d)
	}
	switch e := api.Number(err); {
	case e == api.ErrDown && h.hand.Down():
		return false
	case e != api.OK || h.hand.Down():
		t.Fatalf("%d edits: %v", len(s), err)
	case !told(h.store.Begin(), h.next):
		t.Fatalf("behind %d edits: %s, not %s", len(s), short(allOf(h.store.Begin())), short(h.next.within("", "")))
	}
	h.was = h.next
	return true
}

// mustTell holds what Open told against what may be found; what is found is what there is from then on. The answer is whether that is the batch that was under way.
func (h *history) mustTell(t *testing.T, what string, s *store.Store) bool {
	t.Helper()
	h.store = s
	switch d := s.Begin(); {
	case told(d, h.was):
		h.next = h.was
		return false
	case told(d, h.next):
		h.was = h.next
		return true
	default:
		t.Fatalf("%s: %s; that is neither %s nor %s", what, short(allOf(d)), short(h.was.within("", "")), short(h.next.within("", "")))
		return false
	}
}

// goesAt plays steps on a new disk, with the power going at an act; nil: there are not so many.
func goesAt(t *testing.T, sectors int, steps []step, acts int, done bool) *history {
	t.Helper()
	h := begun(sectors)
	h.hand.Arm(acts, done)
	for _, s := range steps {
		if !h.do(t, s) {
			return h
		}
	}
	return nil
}

// keeps are ways in which so many writes may stay: all that there are, if they are few; else none, all, the first ones, the last ones, each alone, all but each.
func keeps(many int) [][]bool {
	var l [][]bool
	if many <= 5 {
		for n := range 1 << many {
			keep := make([]bool, many)
			for i := range keep {
				keep[i] = n>>i&1 == 1
			}
			l = append(l, keep)
		}
		return l
	}
	for at := range many {
		for _, says := range []func(int) bool{
			func(i int) bool { return i < at },
			func(i int) bool { return i >= at },
			func(i int) bool { return i == at },
			func(i int) bool { return i != at },
		} {
			keep := make([]bool, many)
			for i := range keep {
				keep[i] = says(i)
			}
			l = append(l, keep)
		}
	}
	return l
}

// outcome is how often the power went, how often the batch under way was found, and how often the log was written anew.
type outcome struct {
	losses, kept int
	epochs       uint64
}

// everywhere lets the power go at each act of some steps, with each choice of writes that stay; then, now and then, again at each act of the Open behind it.
func everywhere(t *testing.T, sectors int, steps []step) (o outcome) {
	t.Helper()
	for acts := 0; ; acts++ {
		for _, done := range []bool{false, true} {
			h := goesAt(t, sectors, steps, acts, done)
			if h == nil {
				return o
			}
			for _, keep := range keeps(h.hand.Waiting()) {
				h := goesAt(t, sectors, steps, acts, done)
				h.hand.Crash(keep)
				left := copied(h.hand)
				what := fmt.Sprintf("act %d, %v, kept %v", acts, done, keep)
				if h.mustTell(t, what, found(t, h.hand)) {
					o.kept++
				}
				if o.losses++; o.losses%5 == 0 {
					again(t, left, h.was)
				}
			}
			o.epochs = max(o.epochs, epoch(h.hand))
		}
	}
}

// again lets the power go at each act of an Open: the next one tells just what there was.
func again(t *testing.T, left *block.Hand, was entries) {
	t.Helper()
	for acts := 0; ; acts++ {
		h := copied(left)
		h.Arm(acts, acts%2 == 0)
		if _, err := store.Open(h.Disk()); err == nil {
			return
		}
		h.Crash(slices.Repeat([]bool{false, true, true}, h.Waiting()))
		wantSame(t, found(t, h), was)
	}
}

// someStep is a Commit of some edits, which a disk of so many sectors often has room for; now and then an Open.
func someStep(rnd *rand.Rand, sectors int) step {
	if rnd.Intn(15) == 0 {
		return nil
	}
	s := step{}
	for range 1 + rnd.Intn(6) {
		key := fmt.Sprint("k", rnd.Intn(8))
		if rnd.Intn(3) == 0 {
			s = append(s, gone(key))
		} else {
			s = append(s, put(key, sized(rnd.Intn(slowRoom(sectors)/5))+fmt.Sprint(rnd.Intn(1000))))
		}
	}
	return s
}

// P11.7: the power goes at each act of long rows of Commits, in those that write the log anew, too, and of Opens.
func TestPowerEverywhere(t *testing.T) {
	t.Parallel()
	rnd := rand.New(rand.NewSource(117))
	for _, sectors := range []int{4, 5, 6, 8, 10} {
		steps := []step{nil}
		for range 22 {
			steps = append(steps, someStep(rnd, sectors))
		}
		if o := everywhere(t, sectors, append(steps, nil)); o.losses < 100 || o.kept < 15 || o.epochs < 4 {
			t.Errorf("%d sectors: %d losses of power, %d batches kept, %d times written", sectors, o.losses, o.kept, o.epochs)
		}
	}
}

// P11.7: batches that have many sectors, of which any may stay: whole, or not at all.
func TestPowerInGreatBatches(t *testing.T) {
	t.Parallel()
	many := step{}
	for n := range 60 {
		many = append(many, put(fmt.Sprint("k", n), sized(30+n)))
	}
	fewer := step{}
	for n := range 60 {
		if n%3 == 0 {
			fewer = append(fewer, gone(fmt.Sprint("k", n)))
		} else {
			fewer = append(fewer, put(fmt.Sprint("k", n), sized(20)))
		}
	}
	steps := []step{nil, many, fewer, many, {put("k0", "1")}, fewer, many, fewer}
	if o := everywhere(t, 50, steps); o.losses < 300 || o.kept < 6 || o.epochs < 2 {
		t.Errorf("%v", o)
	}
}

// P11.7: what was under way when the power went is there, or it is not, as its writes stay: one sector, in an Append.
func TestPowerInOneCommit(t *testing.T) {
	for done, want := range map[bool][]string{false: {"a", "1"}, true: {"b", "2"}} {
		p := with(t, 10, "a", "1")
		d := p.begin()
		d.put("b", "2")
		d.remove("a")
		p.hand.Arm(0, done)
		p.want(p.commit(d), api.ErrDown)
		p.hand.Crash([]bool{true})
		wantStore(t, found(t, p.hand), want...)
	}
	for _, stays := range []bool{false, true} {
		p := with(t, 10, "a", "1")
		d := p.begin()
		d.put("b", "2")
		p.hand.Arm(1, false)
		p.want(p.commit(d), api.ErrDown)
		p.hand.Crash([]bool{stays})
		if stays {
			wantStore(t, found(t, p.hand), "a", "1", "b", "2")
		} else {
			wantStore(t, found(t, p.hand), "a", "1")
		}
	}
}

// P11.7: the very first Open, interrupted anywhere, however often: a store without entries.
func TestPowerInTheFirstOpen(t *testing.T) {
	for acts := range 3 {
		for _, done := range []bool{false, true} {
			for _, stays := range []bool{false, true} {
				h := block.New(8)
				for range 5 {
					h.Arm(acts, done)
					refused(t, h.Disk(), api.ErrDown)
					h.Crash([]bool{stays, stays, stays})
				}
				wantStore(t, found(t, h))
			}
		}
	}
}

// P11.7: a store's long life: any Commits, the power going at any act, again and again, in Open too, any writes staying.
func TestPowerAgainAndAgain(t *testing.T) {
	t.Parallel()
	rnd := rand.New(rand.NewSource(118))
	kept, lost := 0, 0
	for range 120 {
		sectors := 4 + rnd.Intn(12)
		h := begun(sectors)
		h.do(t, nil)
		for range 40 {
			h.hand.Arm(rnd.Intn(25), rnd.Intn(2) == 0)
			for h.do(t, someStep(rnd, sectors)) {
			}
			for rnd.Intn(2) == 0 {
				h.hand.Crash(someKeep(rnd, h.hand.Waiting()))
				h.hand.Arm(rnd.Intn(6), rnd.Intn(2) == 0)
				if s, err := store.Open(h.hand.Disk()); err == nil {
					h.mustTell(t, "with power", s)
				}
			}
			h.hand.Crash(someKeep(rnd, h.hand.Waiting()))
			if h.mustTell(t, "again", found(t, h.hand)) {
				kept++
			} else {
				lost++
			}
		}
	}
	if kept < 500 || lost < 1000 {
		t.Errorf("%d batches kept, %d lost", kept, lost)
	}
}

// P11.7: entries that look like records of a store, or like a whole log, are entries.
func TestPowerWithLookalikes(t *testing.T) {
	t.Parallel()
	steps := []step{nil}
	for n := range 12 {
		inner := string(record(put("never", fmt.Sprint(n))))
		steps = append(steps, step{put(inner, inner)}, step{put("a", string(head(n+2))), put("b", strings.Repeat(inner, 9))}, step{gone(inner), put("c", string(record(gone("a"))))})
	}
	if o := everywhere(t, 8, steps); o.epochs < 3 {
		t.Errorf("%v", o)
	}
}
