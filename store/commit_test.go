package store_test

import (
	"errors"
	"fmt"
	"math/rand"
	"slices"
	"testing"

	"farebox/api"
	"farebox/block"
	"farebox/store"
)

// isAs holds that a store, and what is found behind a loss of power, are as the test says; there was no act.
func (p *both) isAs(what string, acts int, batches int, pairs ...string) {
	p.t.Helper()
	p.alike(what)
	p.stands(batches, pairs...)
	if p.hand.Waiting() != acts {
		p.t.Errorf("behind %s: %d writes wait, not %d", what, p.hand.Waiting(), acts)
	}
}

// P11.5: a draft of another store: on another disk, on the same one ahead of an Open, with the same entries and without any.
func TestCommitOfAnothers(t *testing.T) {
	for _, pairs := range [][]string{nil, {"a", "1"}} {
		p, other := with(t, 10, pairs...), with(t, 10, pairs...)
		d := other.begin()
		p.want(p.commit(d), api.ErrStoreStale)
		d.put("b", "2")
		p.want(p.commit(d), api.ErrStoreStale)
		p.want(p.commit(d.clone()), api.ErrStoreStale)
		p.stands(len(pairs)/2, pairs...)
		other.want(other.commit(d), api.OK)
		p.want(p.commit(d), api.ErrStoreStale)

		old := p.begin()
		p.again()
		p.want(p.commit(old), api.ErrStoreStale)
		old.put("c", "3")
		p.want(p.commit(old), api.ErrStoreStale)
		p.stands(0, pairs...)
		p.loses(nil)
		p.stands(0, pairs...)
	}
}

// P11.5: stale drafts: with a batch and without one, with the very batch that was committed, committed twice, begun ahead of several batches.
func TestCommitOfStaleOnes(t *testing.T) {
	p := opened(t, 10)
	none, some, same, d := p.begin(), p.begin(), p.begin(), p.begin()
	some.put("b", "2")
	same.put("a", "1")
	d.put("a", "1")
	p.want(p.commit(d), api.OK)
	for _, x := range []*drafts{none, some, same, d, d.clone(), none.clone()} {
		p.want(p.commit(x), api.ErrStoreStale)
		p.isAs("a stale draft", 0, 1, "a", "1")
	}
	d.put("a", "2")
	p.want(p.commit(d), api.ErrStoreStale)
	between := p.begin()
	p.does("c", "3")
	back := p.begin()
	back.remove("c")
	p.want(p.commit(back), api.OK)
	for _, x := range []*drafts{none, some, same, d, between, back} {
		p.want(p.commit(x), api.ErrStoreStale)
		x.put(filling("z", 2000))
		p.want(p.commit(x), api.ErrStoreStale)
	}
	p.stands(3, "a", "1")
	p.loses(nil)
	p.stands(0, "a", "1")
}

// P11.5: a draft without a batch is taken, again and again, and makes no other one stale, itself neither; there is no act, so that a disk that is down refuses nothing.
func TestCommitWithoutABatch(t *testing.T) {
	p := with(t, 10, "a", "1")
	none, back, d := p.begin(), p.begin(), p.begin()
	back.put("a", "2")
	back.put("b", "2")
	back.put("a", "1")
	back.remove("b")
	d.put("b", "2")
	p.hand.Arm(0, true)
	for range 3 {
		p.want(p.commit(none), api.OK)
		p.want(p.commit(back), api.OK)
		p.want(p.commit(p.begin()), api.OK)
		p.isAs("no batch", 0, 1, "a", "1")
	}
	p.disk.Sync()
	p.want(p.commit(none), api.OK)
	p.hand.Crash(nil)
	p.want(p.commit(none), api.OK)
	p.want(p.commit(d), api.OK)
	p.want(p.commit(none), api.ErrStoreStale)
	p.want(p.commit(back), api.ErrStoreStale)
	p.stands(2, "a", "1", "b", "2")
	later := p.begin()
	p.want(p.commit(later), api.OK)
	later.put("c", "3")
	p.want(p.commit(later), api.OK)
	p.stands(3, "a", "1", "b", "2", "c", "3")
	p.loses(nil)
	p.stands(0, "a", "1", "b", "2", "c", "3")
}

// P11.5: a batch that counts just Room, and one more; of several edits, and of one.
func TestCommitOfGreatBatches(t *testing.T) {
	for _, sectors := range []int{4, 5, 6, 10, 11, 13, 40} {
		room := store.Room(sectors)
		for _, parts := range []int{1, 2, 3} {
			for more := -1; more <= 1; more++ {
				p := opened(t, sectors)
				d := p.begin()
				for i := range parts {
					size := room / parts
					if i == 0 {
						size = room + more - (parts-1)*size
					}
					d.want(d.put(filling(string(rune('z'-i)), size)), api.OK)
				}
				if d.draft.Size() != room+more || counted(d.draft.Edits()) != room+more {
					t.Fatalf("%d, not %d", d.draft.Size(), room+more)
				}
				want := api.OK
				if more > 0 {
					want = api.ErrBig
				}
				p.want(p.commit(d), want)
				if want == api.ErrBig {
					p.isAs("a great batch", 0, 0)
					d.remove("z")
					p.want(p.commit(d), api.OK)
				}
				p.loses(nil)
			}
		}
	}
}

// P11.5: entries that count just Room, and one more, behind a batch that is small.
func TestCommitOfFullStores(t *testing.T) {
	for _, sectors := range []int{4, 5, 6, 10, 11, 40} {
		room := store.Room(sectors)
		for size := 6; size <= 40; size += 17 {
			p := opened(t, sectors)
			p.does(filling("a", room-size))
			for more := 1; more < 4; more++ {
				d := p.begin()
				d.put(filling("b", size+more))
				p.want(p.commit(d), api.ErrFull)
				key, value := filling("a", room-size)
				p.isAs("a full store", 0, 1, key, value)
				d.put(filling("a", room-size-more))
				p.want(p.commit(d), either(counted(d.draft.Edits()) > room, api.ErrBig, api.OK))
				p.again()
				d = p.begin()
				d.remove("b")
				d.remove("a")
				p.want(p.commit(d), api.OK)
				p.again()
				p.does(filling("a", room-size))
			}
			d := p.begin()
			d.put(filling("b", size))
			p.want(p.commit(d), api.OK)
			p.loses(nil)
		}
	}
}

func either(is bool, one, other api.Errno) api.Errno {
	if is {
		return one
	}
	return other
}

// P11.5: an edit that takes away counts, too: a batch of many of these is too great, though it leaves less.
func TestCommitOfGreatRemovals(t *testing.T) {
	p := opened(t, 4)
	p.does(filling("a", 228))
	d := p.begin()
	d.remove("a")
	d.put(filling("b", 222))
	p.want(p.commit(d), api.OK)
	d = p.begin()
	d.remove("b")
	d.put(filling("c", 223))
	p.want(p.commit(d), api.ErrBig)
	p.loses(nil)
	p.stands(0, "b", sized(216))
	p.does("b", "")
	d = p.begin()
	for i := range 36 {
		d.put(string([]byte{byte('a' + i)}), "")
	}
	p.want(p.commit(d), api.OK)
	d = p.begin()
	for i := range 36 {
		d.remove(string([]byte{byte('a' + i)}))
	}
	d.put("123456", "7")
	p.want(p.commit(d), api.OK)
	p.loses(nil)
	p.stands(0, "123456", "7")
}

// P11.5: which of the errors it is, where several would fit: ErrStoreDead, ErrStoreStale, ErrBig, ErrFull.
func TestCommitsFirstError(t *testing.T) {
	p, other := with(t, 10, "a", sized(900)), opened(t, 10)
	stale := p.begin()
	stale.put(filling("b", 2000))
	p.does("a", sized(901))
	full, big, both := p.begin(), p.begin(), p.begin()
	full.put(filling("b", 500))
	big.put(filling("a", 600))
	big.put(filling("b", 384))
	big.remove("a")
	big.put(filling("c", 600))
	both.put(filling("b", 985))
	foreign := other.begin()
	foreign.put(filling("b", 3000))
	if full.draft.Size() <= 984 || big.draft.Size() > 984 || counted(big.draft.Edits()) <= 984 || both.draft.Size() <= 984 {
		t.Fatal("they are otherwise")
	}
	p.want(p.commit(stale), api.ErrStoreStale)
	p.want(p.commit(foreign), api.ErrStoreStale)
	p.want(p.commit(full), api.ErrFull)
	p.want(p.commit(big), api.ErrBig)
	p.want(p.commit(both), api.ErrBig)
	p.isAs("the errors", 0, 2, "a", sized(901))
	d := p.begin()
	d.put("a", "1")
	p.hand.Arm(0, false)
	for _, x := range []*drafts{stale, foreign, full, big, both} {
		p.commit(x)
	}
	if p.hand.Down() {
		t.Error("there was an act")
	}
	p.want(p.commit(d), api.ErrDown)
	for _, x := range []*drafts{stale, foreign, full, big, both, d, p.begin()} {
		p.want(p.commit(x), api.ErrStoreDead)
	}
	p.stands(2, "a", sized(901))
	p.loses(nil)
	p.stands(0, "a", sized(901))
}

// P11.5: behind a refused Commit the same draft, made smaller, is committed.
func TestCommitBehindRefusals(t *testing.T) {
	p := with(t, 4, "a", "1")
	d := p.begin()
	d.put(filling("b", 229))
	p.want(p.commit(d), api.ErrBig)
	d.put(filling("b", 228))
	p.want(p.commit(d), api.ErrFull)
	d.put(filling("b", 221))
	p.want(p.commit(d), api.OK)
	p.stands(2, "a", "1", "b", sized(215))
}

// P11.5: many more batches than the disk has room for at once, of every size, on the least disks; all that was answered is there behind each loss of power.
func TestCommitForEver(t *testing.T) {
	rnd := rand.New(rand.NewSource(114))
	for _, sectors := range []int{4, 5, 6, 7, 10, 13} {
		p := opened(t, sectors)
		room := store.Room(sectors)
		for n := range 400 {
			d := p.begin()
			for d.draft.Size() > room/2 && rnd.Intn(3) > 0 {
				keys := d.slow.now.keys()
				d.remove(keys[rnd.Intn(len(keys))])
			}
			for range 1 + rnd.Intn(3) {
				d.put(fmt.Sprint("k", rnd.Intn(20)), sized(rnd.Intn(room/3)))
			}
			p.commit(d)
			if n%7 == 0 {
				p.loses(someKeep(rnd, p.hand.Waiting()))
			}
		}
		if epoch(p.hand) < 80 {
			t.Errorf("%d sectors: the log was written anew only %d times", sectors, epoch(p.hand))
		}
	}
}

// P11.5: a batch meets the end of the log's room at each place: records of each size, one behind another.
func TestCommitAtEveryPlace(t *testing.T) {
	for size := 6; size <= 228; size++ {
		p := opened(t, 4)
		for n := range 12 {
			key, value := filling("a", size)
			if size > 6 {
				value = value[1:] + string(rune('a'+n))
			} else if key = string(rune('a' + n%3)); n%3 == 0 && n > 0 {
				d := p.begin()
				d.remove("a")
				d.remove("b")
				d.remove("c")
				p.want(p.commit(d), api.OK)
			}
			p.does(key, value)
			p.loses(nil)
		}
	}
}

// P11.5: all entries are taken away where the log has no room for that any more: a store without entries.
func TestCommitOfNothingLeft(t *testing.T) {
	p := with(t, 4, "a", "1")
	anew := 0
	for n := range 150 {
		before := epoch(p.hand)
		d := p.begin()
		for _, key := range d.slow.now.keys() {
			d.remove(key)
		}
		p.want(p.commit(d), api.OK)
		if epoch(p.hand) > before {
			anew++
		}
		p.hand.Crash(nil)
		wantStore(t, found(t, copied(p.hand)))
		p.does("a", sized(7*n%120))
	}
	if anew < 3 {
		t.Errorf("written anew without entries %d times", anew)
	}
}

// P11.5: all is safe behind a Commit: no write waits.
func TestCommitIsSafe(t *testing.T) {
	p := opened(t, 6)
	for n := range 50 {
		p.does(fmt.Sprint(n%7), sized(n))
		if p.hand.Waiting() != 0 {
			t.Fatalf("batch %d: %d writes wait", n, p.hand.Waiting())
		}
		wantSame(t, found(t, copied(p.hand)), p.slow.now)
	}
}

// wantSame holds a store against some entries.
func wantSame(t *testing.T, s *store.Store, want entries) {
	t.Helper()
	if d := s.Begin(); !told(d, want) {
		t.Fatalf("%s, not %s", short(allOf(d)), short(want.within("", "")))
	}
}

// copied is another disk on which the same stands, all of it safe.
func copied(h *block.Hand) *block.Hand {
	c := block.New(h.Disk().Sectors())
	for i := range h.Disk().Sectors() {
		c.Plant(i, h.Sector(i))
	}
	return c
}

// W10: what is answered is an Errno, or wraps one; where there is none it is nil.
func TestErrorsAreNumbers(t *testing.T) {
	p := opened(t, 4)
	d, big := p.begin(), p.begin()
	d.put("a", "1")
	big.put("a", sized(300))
	err := p.store.Commit(big.draft)
	if !errors.Is(err, api.ErrBig) || p.store.Commit(d.draft) != nil {
		t.Errorf("%v", err)
	}
	if err = p.store.Commit(d.draft); !errors.Is(err, api.ErrStoreStale) {
		t.Errorf("%v", err)
	}
	if _, err = store.Open(block.New(3).Disk()); !errors.Is(err, api.ErrArg) {
		t.Errorf("%v", err)
	}
}

// P11.2: Batches counts those that were committed since Open, nothing else.
func TestBatches(t *testing.T) {
	p := opened(t, 6)
	for n := range 60 {
		if p.store.Batches() != n {
			t.Fatalf("%d, not %d", p.store.Batches(), n)
		}
		d := p.begin()
		d.put("a", fmt.Sprint(n))
		p.want(p.commit(p.begin()), api.OK)
		p.want(p.commit(d), api.OK)
		p.want(p.commit(d), api.ErrStoreStale)
		d = p.begin()
		d.put("b", sized(1000))
		p.want(p.commit(d), api.ErrBig)
	}
	p.again()
	p.stands(0, "a", "59")
}

// W2: two disks on which the same is done are alike, byte for byte, in whatever order a draft's edits were done.
func TestStoresApart(t *testing.T) {
	rnd := rand.New(rand.NewSource(115))
	one, other := opened(t, 12), opened(t, 12)
	for range 60 {
		d, e := one.begin(), other.begin()
		for range 8 {
			d.edit(api.Edit{Key: someKey(rnd), Value: someValue(rnd), Gone: rnd.Intn(3) == 0})
		}
		batch := d.draft.Edits()
		for _, i := range rnd.Perm(len(batch)) {
			e.edit(batch[i])
		}
		if one.commit(d) != other.commit(e) {
			t.Fatal("they answer otherwise")
		}
	}
	for at := range 12 {
		if !slices.Equal(one.hand.Sector(at), other.hand.Sector(at)) {
			t.Errorf("sector %d", at)
		}
	}
}
