package store_test

import (
	"math/rand"
	"testing"
	"unsafe"

	"farebox/api"
	"farebox/block"
	"farebox/store"
)

// loose is a text whose bytes can be changed: who keeps it is found out.
func loose(s string) (string, []byte) {
	b := []byte(s)
	return unsafe.String(unsafe.SliceData(b), len(b)), b
}

// fill puts a mark everywhere.
func fill(b []byte) {
	for i := range b {
		b[i] = 'z'
	}
}

// P11.6: what is handed to Put and Delete is neither changed nor kept.
func TestTextsHandedIn(t *testing.T) {
	p := with(t, 10, "gone", "1", "b", "2")
	d := p.begin()
	for _, x := range []api.Edit{put("a", "1"), put("b", "3"), put("b", "2"), put("c", ""), gone("gone"), put("d", "4"), put("d", "5"), gone("c")} {
		key, keyBytes := loose(x.Key)
		value, valueBytes := loose(x.Value)
		if x.Gone {
			d.draft.Delete(key)
			d.slow.remove(x.Key)
		} else {
			d.draft.Put(key, value)
			d.slow.put(x.Key, x.Value)
		}
		d.draft.Get(key)
		if key != x.Key || value != x.Value {
			t.Fatal("what was handed in was changed")
		}
		fill(keyBytes)
		fill(valueBytes)
		d.alike("another text")
	}
	d.edits(put("a", "1"), put("d", "5"), gone("gone"))
	p.want(p.commit(d), api.OK)
	p.stands(2, "a", "1", "b", "2", "d", "5")
	p.again()
}

// P11.6, W6: whatever is done to what Edits answered, the draft is as it was, and so are another answer, its clones, and the store.
func TestEditsHandedOut(t *testing.T) {
	rnd := rand.New(rand.NewSource(119))
	for range 60 {
		p := opened(t, 30)
		for range 3 {
			d := p.begin()
			for range rnd.Intn(12) {
				d.edit(api.Edit{Key: someKey(rnd), Value: someValue(rnd), Gone: rnd.Intn(3) == 0})
			}
			c := d.clone()
			for _, x := range []*drafts{d, c} {
				l := x.draft.Edits()
				for i := range l[:cap(l)] {
					l[:cap(l)][i] = api.Edit{Key: "never", Value: "never"}
				}
				l = append(l[:len(l)/2], api.Edit{Key: "more"}, api.Edit{Key: "more"})
				d.alike("a change of what was answered")
				c.alike("a change of what was answered")
			}
			l := d.draft.Edits()
			p.want(p.commit(d), api.OK)
			clear(l)
			p.alike("a change of what was answered")
			d.alike("a change of what was answered")
			p.again()
		}
	}
}

// P11.6: an answer from before stays what it was, whatever is done to the draft behind it; so do the texts that were gone through.
func TestAnswersStay(t *testing.T) {
	p := with(t, 10, "a", "1", "b", "2")
	d := p.begin()
	d.put("c", "3")
	d.remove("a")
	edits, all := d.draft.Edits(), allOf(d.draft)
	value, _ := d.draft.Get("b")
	d.put("aa", "9")
	d.put("a", "1")
	d.put("c", "4")
	d.put("b", "5")
	p.want(p.commit(d), api.OK)
	if short(edits) != short([]api.Edit{gone("a"), put("c", "3")}) || short(all) != short([]api.Edit{put("b", "2"), put("c", "3")}) || value != "2" {
		t.Errorf("%s; %s; %s", short(edits), short(all), value)
	}
}

// P11.6: a draft that was committed is nobody else's: what is done to it changes neither the store nor drafts of it.
func TestDraftBehindItsCommit(t *testing.T) {
	for _, size := range []int{10, 200} {
		p := opened(t, 4)
		for n := range 20 {
			d := p.begin()
			d.put("a", sized(size)+string(rune('a'+n)))
			d.put("b", string(rune('a'+n)))
			p.want(p.commit(d), api.OK)
			next := p.begin()
			next.put("b", "!")
			d.put("a", "never")
			d.remove("b")
			d.put("c", "never")
			p.alike("a change of a draft that was committed")
			next.alike("a change of a draft that was committed")
			p.want(p.commit(next), api.OK)
		}
		p.loses(nil)
		p.stands(0, "a", sized(size)+"t", "b", "!")
	}
}

// P11.6: the disk is whoever's it was: it can be asked further on.
func TestDiskStays(t *testing.T) {
	h := block.New(10)
	d := h.Disk()
	s, err := store.Open(d)
	if err != nil {
		t.Fatal(err)
	}
	x := s.Begin()
	x.Put("a", "1")
	if s.Commit(x) != nil || d.Sectors() != 10 || d.Sync() != nil {
		t.Error("the disk was changed")
	}
	h.Crash(nil)
	wantStore(t, found(t, h), "a", "1")
}
