package queue

import (
	"bytes"

	"farebox/api"
	"farebox/wire"
)

const (
	recordMark = "FBQU"
	kindSize   = 1 // bytes
	seqSize    = 4 // bytes: MaxCounter just fits
)

// The kinds of changes.
const (
	kindBase = 1 // ahead of all others: the row begins behind a number
	kindPut  = 2 // one more item, with its number
	kindAck  = 3 // all items up to a number are let go
)

// change is what each record of a queue's log says.
type change struct {
	kind, seq int
	item      []byte
}

func (c change) record() []byte {
	w := wire.NewWriter()
	w.Fixed(recordMark, len(recordMark))
	w.Number(c.kind, kindSize)
	w.Number(c.seq, seqSize)
	if c.kind == kindPut {
		w.Text(string(c.item))
	}
	b, _ := w.Bytes() // no number of a queue, and no item, is too great
	return b
}

// readChange is what a record says; false: it is none of a queue. Whether it is just so is asked by writing what it seems to say.
func readChange(record []byte) (change, bool) {
	r := wire.NewReader(record)
	r.Fixed(len(recordMark))
	c := change{kind: r.Number(kindSize), seq: r.Number(seqSize)}
	if c.kind == kindPut {
		c.item = []byte(r.Text(api.MaxItem))
	}
	return c, bytes.Equal(record, c.record())
}
