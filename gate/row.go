package gate

import (
	"bytes"

	"farebox/api"
	"farebox/queue"
)

// row are a gate's sealed taps: a queue, each change of which is safe behind the call. A change that the queue did, and that could not be made safe, was the last; it is not to be seen: gone are the items that it let go, and hidden is how many it put.
type row struct {
	queue  *queue.Queue
	gone   []api.Item
	hidden int
}

// put puts an item behind all others.
func (r *row) put(b []byte) error {
	if _, err := r.queue.Put(b); err != nil {
		return err
	}
	if err := r.queue.Sync(); err != nil {
		r.hidden = 1
		return err
	}
	return nil
}

// letGo lets all items up to a number go. It is made safe, too, so that no loss of power brings them back; where nothing goes there is nothing to be made so.
func (r *row) letGo(seq int) error {
	going := r.queue.Peek(seq - r.queue.Acked())
	if err := r.queue.Ack(seq); err != nil || len(going) == 0 {
		return err
	}
	if err := r.queue.Sync(); err != nil {
		r.gone = going
		return err
	}
	return nil
}

func (r *row) many() int { return len(r.gone) + r.queue.Len() - r.hidden }

func (r *row) last() int { return r.queue.Last() - r.hidden }

// first are the first items, so many at most.
func (r *row) first(most int) []api.Item {
	most = min(max(most, 0), r.many())
	var l []api.Item
	for _, x := range r.gone[:min(most, len(r.gone))] {
		l = append(l, api.Item{Seq: x.Seq, Bytes: bytes.Clone(x.Bytes)})
	}
	return append(l, r.queue.Peek(most-len(l))...)
}
