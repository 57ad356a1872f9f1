package store

import (
	"iter"
	"slices"
	"strings"

	"farebox/api"
)

// Draft is what there would be.
type Draft struct {
	of    *Store
	begun int  // how many batches the store had then
	base  list // its entries then, which are the store's, too
	edits list // the draft's own: what is otherwise now
	size  int  // what all entries count now
	many  int
}

// Get tells an entry's value.
func (d *Draft) Get(key string) (string, bool) {
	if e, is := d.edits.get(key); is {
		return e.Value, !e.Gone
	}
	e, is := d.base.get(key)
	return e.Value, is
}

// Put gives an entry a value. It has its own copies: a short text may be cut out of a great one, all of which it would hold.
func (d *Draft) Put(key, value string) api.Errno {
	switch {
	case len(key) == 0 || len(key) > api.MaxKey:
		return api.ErrStoreKey
	case len(value) > api.MaxValue:
		return api.ErrStoreValue
	}
	d.change(api.Edit{Key: strings.Clone(key), Value: strings.Clone(value)})
	return api.OK
}

// Delete takes one away; was it there?
func (d *Draft) Delete(key string) bool {
	_, is := d.Get(key)
	d.change(api.Edit{Key: strings.Clone(key), Gone: true})
	return is
}

// All are the entries from a key on up to another one (none: to the end), in order. Its own edits are changed in place, so who goes through them has a copy.
func (d *Draft) All(from, to string) iter.Seq2[string, string] {
	return func(yield func(key, value string) bool) {
		base, edits := d.base.within(from, to), slices.Clone(d.edits.within(from, to))
		for i, e := range edits {
			at, behind := base.place(e.Key)
			if !base[:at].each(yield) || !edits[i:i+1].each(yield) {
				return
			}
			base = base[behind:]
		}
		base.each(yield)
	}
}

// Edits are what it changes, in order.
func (d *Draft) Edits() []api.Edit { return slices.Clone(d.edits) }

// Size is how much all entries count; Len, how many there are.
func (d *Draft) Size() int { return d.size }

func (d *Draft) Len() int { return d.many }

// Clone is another one alike.
func (d *Draft) Clone() *Draft {
	c := *d
	c.edits = slices.Clone(d.edits)
	return &c
}

// change does an edit, and notes it, unless the entry is again as it was.
func (d *Draft) change(e api.Edit) {
	if value, is := d.Get(e.Key); is {
		d.many--
		d.size -= count(api.Edit{Key: e.Key, Value: value})
	}
	if !e.Gone {
		d.many++
		d.size += count(e)
	}
	var noted list
	if !d.asBegun(e) {
		noted = list{e}
	}
	at, behind := d.edits.place(e.Key)
	d.edits = slices.Replace(d.edits, at, behind, noted...)
}

// asBegun tells whether an edit leaves an entry as it was when the draft was begun.
func (d *Draft) asBegun(e api.Edit) bool {
	was, is := d.base.get(e.Key)
	if !is {
		return e.Gone
	}
	return was == e
}

// carryOut does a batch; false: no draft that was begun as this one stands has such a batch.
func (d *Draft) carryOut(batch list) bool {
	last := ""
	for _, e := range batch {
		if e.Key <= last || !d.carryOutOne(e) {
			return false
		}
		last = e.Key
	}
	return len(batch) > 0
}

// carryOutOne does an edit; false: it may not be, or all is as it was.
func (d *Draft) carryOutOne(e api.Edit) bool {
	if e.Gone {
		return e.Value == "" && d.Delete(e.Key)
	}
	value, is := d.Get(e.Key)
	return !(is && value == e.Value) && d.Put(e.Key, e.Value) == api.OK
}

// entries are all of them, as a list of their own.
func (d *Draft) entries() list {
	l := make(list, 0, d.many)
	for key, value := range d.All("", "") {
		l = append(l, api.Edit{Key: key, Value: value})
	}
	return l
}
