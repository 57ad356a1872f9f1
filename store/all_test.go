package store_test

import (
	"iter"
	"slices"
	"testing"

	"farebox/api"
)

// edges are keys at, below, above and between those of the tests here.
var edges = []string{"", "\x00", "a", "a\x00", "b", "b\x00", "bb", "c", "cc", "d", "d\x00", "e", "\xff", longest, tooLong, "a" + tooLong}

// P11.3: from and to empty, alike, from above to, at a key and beside it: of entries of the store, of the draft's own, of both in turn.
func TestAllAtEdges(t *testing.T) {
	for name, build := range map[string]func() *drafts{
		"none": func() *drafts { return opened(t, 10).begin() },
		"old":  func() *drafts { return with(t, 10, "a", "1", "b", "2", "c", "3", "d", "4").begin() },
		"new": func() *drafts {
			d := opened(t, 10).begin()
			for _, key := range []string{"c", "a", "d", "b"} {
				d.put(key, key)
			}
			return d
		},
		"old and new": func() *drafts {
			d := with(t, 10, "a", "1", "c", "3").begin()
			d.put("b", "2")
			d.put("d", "4")
			return d
		},
		"new and old": func() *drafts {
			d := with(t, 10, "b", "1", "d", "3").begin()
			d.put("a", "2")
			d.put("c", "4")
			return d
		},
		"others": func() *drafts {
			d := with(t, 10, "a", "1", "b", "3", "c", "", "d", "5").begin()
			d.put("a", "2")
			d.put("c", "4")
			return d
		},
		"gone": func() *drafts {
			d := with(t, 10, "a", "1", "b", "3", "bb", "6", "c", "", "d", "5").begin()
			d.remove("a")
			d.remove("bb")
			d.remove("d")
			return d
		},
		"all gone": func() *drafts {
			d := with(t, 10, "a", "1", "b", "3").begin()
			d.remove("b")
			d.remove("a")
			return d
		},
	} {
		t.Run(name, func(t *testing.T) {
			d := build()
			for _, from := range edges {
				for _, to := range edges {
					d.all(from, to)
				}
			}
		})
	}
}

// P11.3: what the test says of some of them.
func TestAllByName(t *testing.T) {
	d := with(t, 10, "a", "1", "b", "2", "d", "4").begin()
	d.put("c", "3")
	d.put("a", "0")
	for _, x := range []struct{ from, to, want string }{
		{"", "", "a0b2c3d4"}, {"", "a", ""}, {"", "a\x00", "a0"}, {"a", "a", ""}, {"a", "b", "a0"}, {"a\x00", "", "b2c3d4"},
		{"b", "d", "b2c3"}, {"b", "d\x00", "b2c3d4"}, {"d", "", "d4"}, {"d\x00", "", ""}, {"c", "b", ""}, {"d", "a", ""}, {"z", "", ""}, {"", "z", "a0b2c3d4"},
	} {
		got := ""
		for key, value := range d.draft.All(x.from, x.to) {
			got += key + value
		}
		if got != x.want {
			t.Errorf("All(%q, %q): %q, not %q", x.from, x.to, got, x.want)
		}
	}
}

// P11.3: it ends as soon as nobody asks for more: at each entry, of the store and of the draft.
func TestAllEndedEarly(t *testing.T) {
	d := with(t, 10, "a", "1", "c", "3", "d", "4", "f", "6").begin()
	d.put("b", "2")
	d.put("d", "5")
	d.remove("c")
	d.put("e", "7")
	d.put("g", "8")
	want := d.slow.now.within("", "")
	for most := 1; most <= len(want)+1; most++ {
		var got []api.Edit
		d.draft.All("", "")(func(key, value string) bool {
			if len(got) == most {
				t.Fatal("nobody asked for more")
			}
			got = append(got, put(key, value))
			return len(got) < most
		})
		if !slices.Equal(got, want[:min(most, len(want))]) {
			t.Errorf("the first %d: %s", most, short(got))
		}
	}
	for key := range d.draft.All("", "") {
		if key == "d" {
			break
		}
	}
	next, stop := iter.Pull2(d.draft.All("b", ""))
	if key, value, is := next(); key != "b" || value != "2" || !is {
		t.Errorf("%s, %s, %v", key, value, is)
	}
	stop()
	d.alike("an end")
}

// P11.3: entries are as they are when the iterator is gone through, not as they were when it was asked for; the same one may be gone through twice.
func TestAllAsItIsThen(t *testing.T) {
	p := with(t, 10, "a", "1", "b", "2")
	d := p.begin()
	all := d.draft.All("a", "d")
	d.put("c", "3")
	d.put("d", "4")
	d.remove("a")
	for range 2 {
		if got := goneThrough(all); !slices.Equal(got, []api.Edit{put("b", "2"), put("c", "3")}) {
			t.Errorf("%s", short(got))
		}
	}
	d.put("a", "5")
	d.put("b", "6")
	d.remove("c")
	if got := goneThrough(all); !slices.Equal(got, []api.Edit{put("a", "5"), put("b", "6")}) {
		t.Errorf("%s", short(got))
	}
	c := d.clone()
	c.remove("a")
	p.want(p.commit(d), api.OK)
	if got := goneThrough(all); !slices.Equal(got, []api.Edit{put("a", "5"), put("b", "6")}) {
		t.Errorf("%s", short(got))
	}
}

// P11.3: what is done to the draft while it is gone through does not touch it, at each place; going through it within itself neither.
func TestAllChangedMeanwhile(t *testing.T) {
	keys := []string{"a", "b", "c", "d", "e", "f"}
	for at := range 4 {
		for _, key := range append([]string{"aa", "bb", "cc", "dd", "\x00", "\xff"}, keys...) {
			for _, e := range []api.Edit{put(key, "9"), gone(key)} {
				d := with(t, 10, "a", "1", "b", "2", "c", "3", "e", "5").begin()
				d.put("b", "7")
				d.put("d", "4")
				d.put("f", "6")
				d.remove("c")
				want := d.slow.now.within("", "")
				var got []api.Edit
				for key, value := range d.draft.All("", "") {
					if len(got) == at {
						d.edit(e)
						d.alike("an edit meanwhile")
					}
					got = append(got, put(key, value))
				}
				if !slices.Equal(got, want) {
					t.Fatalf("%d, %v: %s, not %s", at, e, short(got), short(want))
				}
			}
		}
	}
}

// P11.3: a draft that takes all away, or fills itself, while it is gone through; a Commit of it meanwhile, and of others.
func TestAllDrainedMeanwhile(t *testing.T) {
	p := with(t, 20, "a", "1", "b", "2", "c", "3")
	d := p.begin()
	d.put("d", "4")
	d.put("bb", "5")
	got := ""
	for key, value := range d.draft.All("", "") {
		got += key + value
		for _, old := range d.slow.now.keys() {
			d.remove(old)
		}
		d.put("x"+key, value)
	}
	if got != "a1b2bb5c3d4" {
		t.Errorf("%s", got)
	}
	d.edits(gone("a"), gone("b"), gone("c"), put("xd", "4"))
	got = ""
	for key, value := range d.draft.All("", "") {
		got += key + value
		p.want(p.commit(d), api.OK)
		p.does("more", "1", "xd", "0")
	}
	if got != "xd4" {
		t.Errorf("%s", got)
	}
	n := 0
	d = p.begin()
	for range d.draft.All("", "") {
		for range d.draft.All("", "") {
			n++
		}
	}
	if n != 4 {
		t.Errorf("%d pairs", n)
	}
}
