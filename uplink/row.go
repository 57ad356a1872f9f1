package uplink

import (
	"bytes"
	"errors"

	"farebox/api"
	"farebox/queue"
)

// row are items that wait: a queue, each change of which is safe behind the call. A change that the queue did, and that could not be made safe, was the last; it is not to be seen: gone are the items that it let go, and hidden is how many it put.
type row struct {
	queue  *queue.Queue
	gone   []api.Item
	hidden int
}

// Put puts items behind all others, the first ones, as many as the queue takes, and tells how many these are. They are made safe together; where none is put there is nothing to be made so.
func (r *row) Put(l ...[]byte) (int, error) {
	put, err := r.putFirst(l)
	if err == nil && put > 0 {
		err = r.queue.Sync()
	}
	if err != nil {
		r.hidden = put
		return 0, err
	}
	return put, nil
}

// putFirst puts items until the queue has no room, or no number, for one.
func (r *row) putFirst(l [][]byte) (int, error) {
	for put, b := range l {
		_, err := r.queue.Put(b)
		if errors.Is(err, api.ErrFull) || errors.Is(err, api.ErrBig) {
			return put, nil
		}
		if err != nil {
			return put, err
		}
	}
	return len(l), nil
}

// LetGo lets all items up to a number go. It is made safe, too, so that no loss of power brings them back; where nothing goes there is nothing to be made so.
func (r *row) LetGo(seq int) error {
	going := r.queue.Peek(seq - r.queue.Acked())
	if err := r.queue.Ack(seq); err != nil || len(going) == 0 {
		return err
	}
	if err := r.queue.Sync(); err != nil {
		r.gone = going
		return err
	}
	return nil
}

// Len is how many items wait; Last, the last one's number, or that up to which they were let go.
func (r *row) Len() int { return len(r.gone) + r.queue.Len() - r.hidden }

func (r *row) Last() int { return r.queue.Last() - r.hidden }

// First are the first items, so many at most.
func (r *row) First(most int) []api.Item {
	most = min(max(most, 0), r.Len())
	var l []api.Item
	for _, x := range r.gone[:min(most, len(r.gone))] {
		l = append(l, api.Item{Seq: x.Seq, Bytes: bytes.Clone(x.Bytes)})
	}
	return append(l, r.queue.Peek(most-len(l))...)
}
