package store_test

import (
	"math/rand"
	"strings"
	"testing"

	"farebox/api"
)

var (
	longest = strings.Repeat("k", 200) // a key
	tooLong = strings.Repeat("k", 201)
	biggest = sized(16384) // a value
	tooBig  = sized(16385)
	noKeys  = []string{"", tooLong, strings.Repeat("k", 256), strings.Repeat("k", 65535), strings.Repeat("k", 65536), strings.Repeat("k", 70000)}
	noWorth = []string{tooBig, sized(16384 + 256), sized(65535), sized(65536), sized(65536 + 5)}
)

// P11.3, P11.4, P11.5: the chapter's examples.
func TestExamples(t *testing.T) {
	p := opened(t, 10)
	d := p.begin()
	d.want(d.put("b", "2"), api.OK)
	d.want(d.put("a", "1"), api.OK)
	d.want(d.put("a", "3"), api.OK)
	if d.draft.Size() != 14 || d.draft.Len() != 2 {
		t.Errorf("Size %d, Len %d", d.draft.Size(), d.draft.Len())
	}
	d.edits(put("a", "3"), put("b", "2"))
	p.want(p.commit(d), api.OK)
	p.want(p.commit(d), api.ErrStoreStale)
	p.stands(1, "a", "3", "b", "2")
	p.loses(nil)
	p.stands(0, "a", "3", "b", "2")
	d = p.begin()
	if value, is := d.draft.Get("a"); value != "3" || !is {
		t.Errorf("%q, %v", value, is)
	}
	if got := short(goneThrough(d.draft.All("", "b"))); got != short([]api.Edit{put("a", "3")}) {
		t.Error(got)
	}
	d.want(d.put("", "1"), api.ErrStoreKey)
	d.want(d.put(tooLong, "1"), api.ErrStoreKey)
	d.want(d.put("c", tooBig), api.ErrStoreValue)
	d.want(d.put(filling("c", 985)), api.OK)
	p.want(p.commit(d), api.ErrBig)
	p.stands(0, "a", "3", "b", "2")
}

// P11.3: keys and values at their limits, and beyond them; what is refused has changed nothing.
func TestPutAtLimits(t *testing.T) {
	for _, pairs := range [][]string{nil, {"a", "1", longest, "2"}} {
		d := with(t, 200, pairs...).begin()
		d.put("b", "3")
		for _, key := range noKeys {
			for _, value := range []string{"", "1", biggest} {
				d.want(d.put(key, value), api.ErrStoreKey)
				d.alike("a refused Put")
			}
			for _, value := range noWorth {
				d.want(d.put(key, value), api.ErrStoreKey)
				d.alike("a refused Put")
			}
		}
		for _, key := range []string{"a", "b", "c", "\x00", longest, longest[1:]} {
			for _, value := range noWorth {
				d.want(d.put(key, value), api.ErrStoreValue)
				d.alike("a refused Put")
			}
		}
		for _, key := range []string{"a", "b", "c", "\x00", longest, longest[1:]} {
			for _, value := range []string{"", "1", biggest[1:], biggest, ""} {
				d.want(d.put(key, value), api.OK)
				d.alike("Put")
			}
		}
	}
}

// P11.3: bytes of every kind, in keys and in values, also behind Open; keys stand in the order of their bytes.
func TestBytesOfEveryKind(t *testing.T) {
	p := opened(t, 200)
	d := p.begin()
	for n := range 256 {
		one := string([]byte{byte(n)})
		d.want(d.put(one, one+one), api.OK)
		d.want(d.put("k"+one, one), api.OK)
		d.want(d.put(one+"k", ""), api.OK)
	}
	all := make([]byte, 256)
	for n := range all {
		all[n] = byte(255 - n)
	}
	d.want(d.put(string(all[:200]), string(all)), api.OK)
	d.want(d.put(string(all[56:]), string(all)+string(all)), api.OK)
	d.alike("Put")
	if d.draft.Len() != 256*3-1+2 {
		t.Errorf("%d entries", d.draft.Len()) // kk was put twice
	}
	p.want(p.commit(d), api.OK)
	p.again()
	p.loses(nil)
	for key := range p.slow.now {
		p.begin().gets(key)
	}
}

// P11.3: Get and Delete of what is there, of what is not, of keys that may not be; an entry without a value is there.
func TestGetAndDelete(t *testing.T) {
	d := with(t, 10, "a", "1", "b", "", "d", "4").begin()
	d.put("c", "")
	d.put("d", "5")
	for key, want := range map[string]string{"a": "1", "b": "", "c": "", "d": "5"} {
		if value, is := d.draft.Get(key); value != want || !is {
			t.Errorf("Get of %s: %q, %v", key, value, is)
		}
	}
	for _, key := range append([]string{"\x00", "a\x00", "A", "e", "ab", "aa", longest}, noKeys...) {
		if value, is := d.draft.Get(key); value != "" || is {
			t.Errorf("Get of %.20q: %q, %v", key, value, is)
		}
		if d.remove(key) {
			t.Errorf("%.20q was there", key)
		}
		d.alike("Delete of nothing")
	}
	d.edits(put("c", ""), put("d", "5"))
	for i, key := range []string{"b", "c", "a", "d"} {
		if !d.remove(key) || d.remove(key) {
			t.Errorf("Delete of %s", key)
		}
		if value, is := d.draft.Get(key); value != "" || is || d.draft.Len() != 3-i {
			t.Errorf("%s is still there: %q", key, value)
		}
		d.alike("Delete")
	}
	if d.draft.Size() != 0 {
		t.Errorf("nothing counts %d", d.draft.Size())
	}
}

// P11.4: an entry that was put as it was, put and deleted, deleted and put again, deleted ahead of it being there.
func TestEdits(t *testing.T) {
	p := with(t, 10, "a", "1", "b", "2", "c", "")
	for _, x := range []struct {
		does []api.Edit
		want []api.Edit
	}{
		{nil, nil},
		{[]api.Edit{put("a", "1")}, nil},
		{[]api.Edit{put("c", "")}, nil},
		{[]api.Edit{put("a", "1"), put("b", "2"), put("c", "")}, nil},
		{[]api.Edit{put("a", "")}, []api.Edit{put("a", "")}},
		{[]api.Edit{put("a", "2"), put("a", "1")}, nil},
		{[]api.Edit{put("a", "2"), put("a", "3")}, []api.Edit{put("a", "3")}},
		{[]api.Edit{put("d", "4"), gone("d")}, nil},
		{[]api.Edit{put("d", ""), gone("d")}, nil},
		{[]api.Edit{put("d", "")}, []api.Edit{put("d", "")}},
		{[]api.Edit{gone("d")}, nil},
		{[]api.Edit{gone("d"), put("d", "4")}, []api.Edit{put("d", "4")}},
		{[]api.Edit{gone("d"), put("d", "4"), put("d", "5"), gone("d")}, nil},
		{[]api.Edit{gone("a")}, []api.Edit{gone("a")}},
		{[]api.Edit{gone("c")}, []api.Edit{gone("c")}},
		{[]api.Edit{gone("c"), gone("c")}, []api.Edit{gone("c")}},
		{[]api.Edit{gone("c"), put("c", "")}, nil},
		{[]api.Edit{gone("a"), put("a", "1")}, nil},
		{[]api.Edit{gone("a"), put("a", "2")}, []api.Edit{put("a", "2")}},
		{[]api.Edit{gone("a"), put("a", "")}, []api.Edit{put("a", "")}},
		{[]api.Edit{put("a", "2"), gone("a")}, []api.Edit{gone("a")}},
		{[]api.Edit{put("a", "2"), gone("a"), put("a", "1")}, nil},
		{[]api.Edit{gone("a"), put("a", "2"), gone("a")}, []api.Edit{gone("a")}},
		{[]api.Edit{put("e", "5"), put("d", "4"), gone("b"), put("a\x00", "6"), put("\xff", "7"), put("c", "3")}, []api.Edit{put("a\x00", "6"), gone("b"), put("c", "3"), put("d", "4"), put("e", "5"), put("\xff", "7")}},
		{[]api.Edit{gone("c"), gone("b"), gone("a")}, []api.Edit{gone("a"), gone("b"), gone("c")}},
	} {
		d := p.begin()
		for _, e := range x.does {
			d.edit(e)
			d.alike("an edit")
		}
		d.edits(x.want...)
		p.want(p.commit(p.begin()), api.OK)
	}
	p.stands(1, "a", "1", "b", "2", "c", "")
}

// P11.4: what entries count, and how many there are, behind each call.
func TestSizeAndLen(t *testing.T) {
	d := with(t, 40, "a", "1", "bb", "").begin()
	for i, x := range []struct {
		e          api.Edit
		size, many int
	}{
		{put("a", "1"), 14, 2}, {put("a", "22"), 15, 2}, {put("a", ""), 13, 2}, {gone("x"), 13, 2}, {gone("a"), 7, 1}, {gone("a"), 7, 1},
		{put("c", sized(100)), 113, 2}, {put("c", "1"), 14, 2}, {put("a", "1"), 21, 3}, {gone("bb"), 14, 2}, {gone("c"), 7, 1}, {gone("a"), 0, 0},
		{put(longest, biggest), 16589, 1}, {put("", "1"), 16589, 1}, {put("a", tooBig), 16589, 1}, {put(longest, ""), 205, 1}, {gone(longest), 0, 0},
	} {
		d.edit(x.e)
		if d.draft.Size() != x.size || d.draft.Len() != x.many {
			t.Errorf("%d: Size %d, Len %d, not %d, %d", i, d.draft.Size(), d.draft.Len(), x.size, x.many)
		}
	}
}

// P11.4: behind Clone neither sees what is done to the other, also as to what they were begun with.
func TestClone(t *testing.T) {
	p := with(t, 10, "a", "1", "b", "2", "c", "3")
	d := p.begin()
	d.put("b", "4")
	d.remove("c")
	d.put("d", "5")
	c := d.clone()
	c.edits(put("b", "4"), gone("c"), put("d", "5"))
	d.put("d", "6")
	d.remove("b")
	c.edits(put("b", "4"), gone("c"), put("d", "5"))
	c.put("c", "3")
	c.put("b", "2")
	c.put("aa", "7")
	d.edits(gone("b"), gone("c"), put("d", "6"))
	c.edits(put("aa", "7"), put("d", "5"))
	c.remove("d")
	c.remove("aa")
	c.edits()
	e := d.clone().clone()
	for _, key := range []string{"b", "c", "d"} {
		d.remove(key)
	}
	e.edits(gone("b"), gone("c"), put("d", "6"))
	p.want(p.commit(e), api.OK)
	p.stands(2, "a", "1", "d", "6")
	for _, x := range []*drafts{c, d, e, c.clone(), d.clone(), e.clone()} {
		x.alike("a Commit of a clone")
		p.want(p.commit(x), api.ErrStoreStale)
	}
}

// P11.4: the same with any edits: a clone of a clone, each going its own way.
func TestClonesApart(t *testing.T) {
	rnd := rand.New(rand.NewSource(111))
	for range 100 {
		p := opened(t, 20)
		for range 2 {
			l := []*drafts{p.begin()}
			for range 25 {
				d := l[rnd.Intn(len(l))]
				if rnd.Intn(6) == 0 {
					l = append(l, d.clone())
				}
				if rnd.Intn(3) == 0 {
					d.remove(someKey(rnd))
				} else {
					d.put(someKey(rnd), someValue(rnd))
				}
				for _, x := range l {
					x.alike("what is done to another one")
				}
			}
			p.want(p.commit(l[rnd.Intn(len(l))]), api.OK)
		}
	}
}

// P11.3, P11.4: whatever is done to a draft, all of its calls answer as the chapter says.
func TestManyEdits(t *testing.T) {
	rnd := rand.New(rand.NewSource(112))
	for range 60 {
		p := opened(t, 60)
		for range 6 {
			d := p.begin()
			for range rnd.Intn(40) {
				if rnd.Intn(3) == 0 {
					d.remove(someKey(rnd))
				} else {
					d.put(someKey(rnd), someValue(rnd))
				}
				d.alike("an edit")
				d.gets(someKey(rnd))
				d.all(someKey(rnd), someKey(rnd))
			}
			p.want(p.commit(d), api.OK)
			if rnd.Intn(3) == 0 {
				p.again()
			}
		}
	}
}

// P11.3: a draft sees neither what others do, nor what is committed behind it; a new one does.
func TestDraftsApart(t *testing.T) {
	p := with(t, 10, "a", "1")
	d, other, old := p.begin(), p.begin(), p.begin()
	d.put("a", "2")
	d.put("b", "3")
	other.alike("an edit of another draft")
	other.remove("a")
	d.alike("an edit of another draft")
	p.want(p.commit(d), api.OK)
	other.edits(gone("a"))
	old.edits()
	if value, is := old.draft.Get("a"); value != "1" || !is {
		t.Errorf("%q, %v", value, is)
	}
	old.put("a", "2")
	old.edits(put("a", "2"))
	p.begin().edits()
	p.stands(2, "a", "2", "b", "3")
}

// P11.8: a draft's batch, carried out on another draft that was begun when it was, makes it stand alike, in any order, too.
func TestBatchesCarriedOut(t *testing.T) {
	rnd := rand.New(rand.NewSource(113))
	edits := 0
	for range 150 {
		p := opened(t, 30)
		for range 4 {
			d, other, third := p.begin(), p.begin(), p.begin()
			for range rnd.Intn(30) {
				d.edit(api.Edit{Key: someKey(rnd), Value: someValue(rnd), Gone: rnd.Intn(3) == 0})
			}
			batch := d.draft.Edits()
			edits += len(batch)
			for _, e := range batch {
				other.edit(e)
			}
			for _, i := range rnd.Perm(len(batch)) {
				third.edit(batch[i])
			}
			other.slow, third.slow = d.slow, d.slow
			other.alike("carrying the batch out")
			third.alike("carrying the batch out in any order")
			p.want(p.commit([]*drafts{d, other, third}[rnd.Intn(3)]), api.OK)
		}
	}
	if edits < 1000 {
		t.Errorf("%d edits", edits)
	}
}
