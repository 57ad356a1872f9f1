package store_test

import (
	"encoding/binary"
	"maps"
	"slices"

	"farebox/api"
)

// This file tells the chapter slowly, word by word, without a disk; and the records in which a store of this package stands, with the library's own means.

// entries are those of a store or a draft, by their keys.
type entries map[string]string

func (l entries) keys() []string { return slices.Sorted(maps.Keys(l)) }

func (l entries) size() int {
	n := 0
	for key, value := range l {
		n += 5 + len(key) + len(value)
	}
	return n
}

// within are the entries from a key on up to another one, as the edits that would put them.
func (l entries) within(from, to string) []api.Edit {
	var got []api.Edit
	for _, key := range l.keys() {
		if key >= from && (to == "" || key < to) {
			got = append(got, api.Edit{Key: key, Value: l[key]})
		}
	}
	return got
}

// since is the batch that makes these entries of others.
func (l entries) since(was entries) []api.Edit {
	all := maps.Clone(was)
	maps.Copy(all, l)
	var batch []api.Edit
	for _, key := range all.keys() {
		value, is := l[key]
		old, were := was[key]
		switch {
		case !is:
			batch = append(batch, api.Edit{Key: key, Gone: true})
		case !were || value != old:
			batch = append(batch, api.Edit{Key: key, Value: value})
		}
	}
	return batch
}

// behind are the entries that a batch makes of these.
func (l entries) behind(batch []api.Edit) entries {
	next := maps.Clone(l)
	for _, e := range batch {
		if e.Gone {
			delete(next, e.Key)
		} else {
			next[e.Key] = e.Value
		}
	}
	return next
}

// counted is what edits count.
func counted(batch []api.Edit) int {
	n := 0
	for _, e := range batch {
		n += 5 + len(e.Key) + len(e.Value)
	}
	return n
}

func mayKey(key string) bool { return len(key) >= 1 && len(key) <= 200 }

func mayValue(value string) bool { return len(value) <= 16384 }

// slowDraft is a draft.
type slowDraft struct {
	of       *slowStore
	stale    int // how many batches the store had when it was begun
	was, now entries
}

func (d *slowDraft) put(key, value string) api.Errno {
	if !mayKey(key) {
		return api.ErrStoreKey
	}
	if !mayValue(value) {
		return api.ErrStoreValue
	}
	d.now[key] = value
	return api.OK
}

func (d *slowDraft) remove(key string) bool {
	_, is := d.now[key]
	delete(d.now, key)
	return is
}

func (d *slowDraft) clone() *slowDraft {
	return &slowDraft{d.of, d.stale, maps.Clone(d.was), maps.Clone(d.now)}
}

// slowStore is a store as long as there is power.
type slowStore struct {
	sectors int
	now     entries
	batches int
	dead    bool
}

func slowRoom(sectors int) int {
	if sectors < 4 || sectors > 1048576 {
		return -1
	}
	h := (sectors - 2) / 2
	return (504*h - 48) / 2
}

func (s *slowStore) begin() *slowDraft {
	return &slowDraft{s, s.batches, maps.Clone(s.now), maps.Clone(s.now)}
}

func (s *slowStore) commit(d *slowDraft) api.Errno {
	batch := d.now.since(d.was)
	if s.dead {
		return api.ErrStoreDead
	}
	if d.of != s || d.stale != s.batches {
		return api.ErrStoreStale
	}
	if counted(batch) > slowRoom(s.sectors) {
		return api.ErrBig
	}
	if d.now.size() > slowRoom(s.sectors) {
		return api.ErrFull
	}
	if len(batch) > 0 {
		s.now = maps.Clone(d.now)
		s.batches++
	}
	return api.OK
}

// record is one of a store's log: the mark, how many edits there are, each of them: its key and its value with their lengths ahead, whether it is gone.
func record(batch ...api.Edit) []byte {
	return counting(len(batch), batch...)
}

// counting is one that says that there are so many edits.
func counting(many int, batch ...api.Edit) []byte {
	b := binary.BigEndian.AppendUint32([]byte("FBST"), uint32(many))
	for _, e := range batch {
		for _, s := range []string{e.Key, e.Value} {
			b = append(binary.BigEndian.AppendUint16(b, uint16(len(s))), s...)
		}
		if e.Gone {
			b = append(b, 1)
		} else {
			b = append(b, 0)
		}
	}
	return b
}

// put and gone are edits.
func put(key, value string) api.Edit { return api.Edit{Key: key, Value: value} }

func gone(key string) api.Edit { return api.Edit{Key: key, Gone: true} }

// slowBatch is what a record says; nil: it is none.
func slowBatch(b []byte) []api.Edit {
	if len(b) < 8 || string(b[:4]) != "FBST" {
		return nil
	}
	many, rest := binary.BigEndian.Uint32(b[4:]), b[8:]
	var batch []api.Edit
	for len(rest) > 0 {
		var texts [2]string
		for i := range texts {
			if len(rest) < 2 || len(rest) < 2+int(binary.BigEndian.Uint16(rest)) {
				return nil
			}
			n := int(binary.BigEndian.Uint16(rest))
			texts[i], rest = string(rest[2:2+n]), rest[2+n:]
		}
		if len(rest) < 1 || rest[0] > 1 || !mayKey(texts[0]) || !mayValue(texts[1]) {
			return nil
		}
		batch = append(batch, api.Edit{Key: texts[0], Value: texts[1], Gone: rest[0] == 1})
		rest = rest[1:]
	}
	if len(batch) != int(many) {
		return nil
	}
	return batch
}

// slowEntries are what a log's records tell; nil: they are no store's. Each must be the batch of some draft.
func slowEntries(records [][]byte) entries {
	now := entries{}
	for _, b := range records {
		batch := slowBatch(b)
		next := now.behind(batch)
		if len(batch) == 0 || !slices.Equal(next.since(now), batch) {
			return nil
		}
		now = next
	}
	return now
}
