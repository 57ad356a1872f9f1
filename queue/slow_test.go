package queue_test

import (
	"bytes"
	"encoding/binary"
	"slices"

	"farebox/api"
)

// This file tells the chapter slowly, word by word, without a disk; and the records in which a queue of this package stands, with the library's own means.

// slowQueue is a queue as long as there is power.
type slowQueue struct {
	limit, acked int
	items        []api.Item
	dead         bool
}

func (q *slowQueue) last() int {
	if len(q.items) == 0 {
		return q.acked
	}
	return q.items[len(q.items)-1].Seq
}

func (q *slowQueue) put(b []byte) (int, api.Errno) {
	if q.dead {
		return 0, api.ErrQueueDead
	}
	if len(b) > 256 {
		return 0, api.ErrLong
	}
	if len(q.items) == q.limit {
		return 0, api.ErrFull
	}
	if q.last() == 4294967295 {
		return 0, api.ErrBig
	}
	n := q.last() + 1
	q.items = append(q.items, api.Item{Seq: n, Bytes: bytes.Clone(b)})
	return n, api.OK
}

func (q *slowQueue) ack(seq int) api.Errno {
	if q.dead {
		return api.ErrQueueDead
	}
	if seq < 0 || seq > q.last() {
		return api.ErrArg
	}
	for len(q.items) > 0 && q.items[0].Seq <= seq {
		q.acked = q.items[0].Seq
		q.items = slices.Clone(q.items[1:])
	}
	return api.OK
}

func (q *slowQueue) peek(most int) []api.Item {
	var l []api.Item
	for _, x := range q.items {
		if len(l) < most {
			l = append(l, x)
		}
	}
	return l
}

// clone is another one that stands alike.
func (q *slowQueue) clone() *slowQueue {
	c := *q
	c.items = slices.Clone(q.items)
	return &c
}

// record is one of a queue's log: the mark, the kind, a number; then whatever is handed in.
func record(kind byte, n int, b ...byte) []byte {
	r := append([]byte("FBQU"), kind)
	return append(binary.BigEndian.AppendUint32(r, uint32(n)), b...)
}

// slowBase says behind which number a row begins, slowPut that there is one more item, slowAck that some were let go.
func slowBase(n int) []byte { return record(1, n) }

func slowPut(n int, item string) []byte {
	size := binary.BigEndian.AppendUint16(nil, uint16(len(item)))
	return record(2, n, append(size, item...)...)
}

func slowAck(n int) []byte { return record(3, n) }

// slowRow is the queue that a log's records tell; nil: they are no queue's.
func slowRow(records [][]byte) *slowQueue {
	q := &slowQueue{limit: 4096}
	for i, b := range records {
		if len(b) < 9 || string(b[:4]) != "FBQU" {
			return nil
		}
		n, more := int(binary.BigEndian.Uint32(b[5:])), b[9:]
		switch {
		case b[4] == 1 && i == 0 && len(more) == 0:
			q.acked = n
		case b[4] == 2 && len(more) >= 2 && len(more) == 2+int(binary.BigEndian.Uint16(more)):
			if got, e := q.put(more[2:]); e != api.OK || got != n {
				return nil
			}
		case b[4] == 3 && n > q.acked && len(more) == 0:
			if q.ack(n) != api.OK {
				return nil
			}
		default:
			return nil
		}
	}
	return q
}
