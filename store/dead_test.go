package store_test

import (
	"fmt"
	"slices"
	"testing"

	"farebox/api"
	"farebox/store"
)

// isDead holds that every call answers as of a dead store, with the disk down and with it up again, that there is no act, and that all is as the test says.
func (p *both) isDead(batches int, drafts ...*drafts) {
	p.t.Helper()
	want := p.slow.now
	for range 2 {
		waiting := p.hand.Waiting()
		for _, d := range append(drafts, p.begin()) {
			p.want(p.commit(d), api.ErrStoreDead)
			p.want(p.commit(d.clone()), api.ErrStoreDead)
		}
		d := p.begin()
		d.put("new", "1")
		d.remove("a")
		d.all("", "")
		d.alike("an edit")
		p.want(p.commit(d), api.ErrStoreDead)
		if p.store.Batches() != batches || !told(p.store.Begin(), want) {
			p.t.Fatal("a dead store is otherwise")
		}
		if p.hand.Waiting() != waiting {
			p.t.Fatal("a dead store writes")
		}
		p.hand.Crash(slices.Repeat([]bool{true}, waiting))
	}
}

// atEachAct commits a draft with the power going at each act of it, ahead of that and behind. The answer is how many acts there are.
func atEachAct(t *testing.T, build func() *both, edits ...api.Edit) int {
	t.Helper()
	for acts := 0; ; acts++ {
		for _, done := range []bool{false, true} {
			p := build()
			batches := p.store.Batches()
			d, other := p.begin(), p.begin()
			for _, e := range edits {
				d.edit(e)
			}
			other.put("other", "1")
			p.hand.Arm(acts, done)
			e := p.commit(d)
			if !p.hand.Down() {
				p.want(e, api.OK)
				return acts
			}
			p.want(e, api.ErrDown)
			p.isDead(batches, d, other)
		}
	}
}

// brink is a store behind so many batches that the next one, with the same value, is the first to write the log anew.
func brink(t *testing.T, sectors, size int) func() *both {
	t.Helper()
	played := func(many int) *both {
		p := with(t, sectors, "a", "1")
		for n := range many {
			p.does("k", sized(size-1)+string(rune('a'+n%2)))
		}
		return p
	}
	for many := 1; ; many++ {
		p := played(many)
		before := epoch(p.hand)
		if p.does("k", sized(size)); epoch(p.hand) > before {
			return func() *both { return played(many) }
		}
	}
}

// P11.5: whichever act of a Commit is refused, the store is dead, and as it was ahead of that; so in one that writes the log anew.
func TestDeadAtEachAct(t *testing.T) {
	fresh := func() *both { return with(t, 10, "a", "1") }
	if n := atEachAct(t, fresh, put("b", "2")); n != 2 {
		t.Errorf("a Commit of little has %d acts", n)
	}
	if n := atEachAct(t, fresh, put("b", sized(900)), gone("a")); n != 3 {
		t.Errorf("a Commit of much has %d acts", n)
	}
	if n := atEachAct(t, fresh, gone("a")); n != 2 {
		t.Errorf("a Commit of what is gone has %d acts", n)
	}
	if n := atEachAct(t, brink(t, 4, 60), put("k", sized(60))); n != 4 {
		t.Errorf("a Commit that writes the log anew has %d acts", n)
	}
	if n := atEachAct(t, brink(t, 10, 700), put("k", sized(700))); n != 5 {
		t.Errorf("a Commit that writes the log anew has %d acts", n)
	}
	if n := atEachAct(t, brink(t, 10, 700), put("k", sized(700)), gone("a")); n != 5 {
		t.Errorf("a Commit that writes the log anew has %d acts", n)
	}
}

// P11.5: the disk went down elsewhere: a Commit with a batch is the store's last.
func TestDeadOnADiskThatIsDown(t *testing.T) {
	p := with(t, 10, "a", "1")
	p.does("b", "2")
	p.hand.Arm(0, false)
	p.disk.Sync()
	d := p.begin()
	p.want(p.commit(d), api.OK)
	d.put("c", "3")
	p.want(p.commit(d), api.ErrDown)
	p.isDead(2, d)
	p.again()
	p.stands(0, "a", "1", "b", "2")
}

// P11.3, P11.5: a store that is dead is not mixed up with one that is opened behind it on the same disk.
func TestDeadBesideANewOne(t *testing.T) {
	p := with(t, 10, "a", "1")
	d := p.begin()
	d.put("b", "2")
	p.hand.Arm(0, false)
	p.want(p.commit(d), api.ErrDown)
	old := p.store
	p.loses(nil)
	p.want(p.commit(d), api.ErrStoreStale)
	p.does("c", "3")
	if err := old.Commit(old.Begin()); api.Number(err) != api.ErrStoreDead {
		t.Errorf("%v", err)
	}
	if err := old.Commit(p.begin().draft); api.Number(err) != api.ErrStoreDead {
		t.Errorf("%v", err)
	}
	wantStore(t, old, "a", "1")
	p.stands(1, "a", "1", "c", "3")
	p.again()
	p.stands(0, "a", "1", "c", "3")
}

// P11.3: drafts of a store that died are as they were, and go on.
func TestDraftsOfADeadStore(t *testing.T) {
	p := with(t, 10, "a", "1", "b", "2")
	d, other := p.begin(), p.begin()
	d.put("c", "3")
	d.remove("a")
	other.put("b", "4")
	p.hand.Arm(1, true)
	p.want(p.commit(d), api.ErrDown)
	d.edits(gone("a"), put("c", "3"))
	other.edits(put("b", "4"))
	d.remove("b")
	d.put("a", "1")
	d.edits(gone("b"), put("c", "3"))
	p.stands(1, "a", "1", "b", "2")
	if got := fmt.Sprint(p.store.Begin().Size(), p.store.Begin().Len()); got != "14 2" {
		t.Error(got)
	}
	var none *store.Store
	if s, err := store.Open(p.disk); s != none || api.Number(err) != api.ErrDown {
		t.Errorf("%v, %v", s, err)
	}
}
