package store

import (
	"slices"
	"strings"

	"farebox/api"
	"farebox/wire"
)

const (
	recordMark = "FBST"
	manySize   = 4 // bytes of how many edits a record has
	editSize   = 5 // bytes of an edit beside those of its key and its value: what it counts, and has in a record
)

// list are edits, each key once, in the order of their keys: a batch; or, none of them Gone, entries: they are the batch that makes them of nothing.
type list []api.Edit

// place is where a key's edit stands, and the place behind it; both are the place where it would stand, if there is none.
func (l list) place(key string) (at, behind int) {
	at, is := slices.BinarySearchFunc(l, key, func(e api.Edit, key string) int { return strings.Compare(e.Key, key) })
	if is {
		return at, at + 1
	}
	return at, at
}

// get is a key's edit.
func (l list) get(key string) (api.Edit, bool) {
	at, behind := l.place(key)
	if at == behind {
		return api.Edit{}, false
	}
	return l[at], true
}

// within are the edits from a key on up to another one (none: to the end).
func (l list) within(from, to string) list {
	if to != "" {
		end, _ := l.place(to)
		l = l[:end]
	}
	start, _ := l.place(from)
	return l[start:]
}

// each yields the entries that are there; false: nobody asks for more.
func (l list) each(yield func(key, value string) bool) bool {
	for _, e := range l {
		if !e.Gone && !yield(e.Key, e.Value) {
			return false
		}
	}
	return true
}

// size is what all of them count.
func (l list) size() int {
	n := 0
	for _, e := range l {
		n += count(e)
	}
	return n
}

func count(e api.Edit) int { return editSize + len(e.Key) + len(e.Value) }

// record tells them as one of a log's. How many there are stands ahead, so that no beginning of a record is one.
func (l list) record() []byte {
	w := wire.NewWriter()
	w.Fixed(recordMark, len(recordMark))
	w.Number(len(l), manySize)
	for _, e := range l {
		w.Text(e.Key)
		w.Text(e.Value)
		w.Bool(e.Gone)
	}
	b, _ := w.Bytes() // no text of a draft, and no number of a batch that has room, is too great
	return b
}

// records are the fewest that tell entries: no record says that there are none.
func (l list) records() [][]byte {
	if len(l) == 0 {
		return nil
	}
	return [][]byte{l.record()}
}

// readBatch is the batch that a record says; none, which no record says, if it is no store's.
func readBatch(record []byte) list {
	r := wire.NewReader(record)
	mark, many := r.Fixed(len(recordMark)), r.Number(manySize)
	var l list
	for len(l) < many && r.Fault().Code == api.OK {
		l = append(l, api.Edit{Key: r.Text(api.MaxKey), Value: r.Text(api.MaxValue), Gone: r.Bool()})
	}
	if mark != recordMark || r.End().Code != api.OK {
		return nil
	}
	return l
}
