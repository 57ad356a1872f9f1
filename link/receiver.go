package link

import (
	"bytes"

	"farebox/api"
)

// Receiver takes items, each once, in order.
type Receiver struct {
	next int // the number of the item that comes next; 0: it knows nothing
}

// NewReceiver is one that has taken nothing.
func NewReceiver() *Receiver { return &Receiver{} }

// Got are the items of a frame that come next.
func (r *Receiver) Got(f api.Frame) []api.Item {
	if f.Kind != kindItems || !mayBe(f) {
		return nil
	}
	r.next = max(r.next, f.Base)
	if r.next < f.Seq {
		return nil
	}
	var items []api.Item
	for i, b := range f.Items {
		if seq := f.Seq + i; seq >= r.next {
			items = append(items, api.Item{Seq: seq, Bytes: bytes.Clone(b)})
		}
	}
	return items
}

// Take takes items that came next, up to a number.
func (r *Receiver) Take(seq int) {
	if r.knows() && within(seq, r.next, api.MaxCounter) {
		r.next = seq + 1
	}
}

// Ack says up to which number all were taken; false: nothing is known yet.
func (r *Receiver) Ack() (api.Frame, bool) {
	if !r.knows() {
		return api.Frame{}, false
	}
	return api.Frame{Kind: kindAck, Seq: r.next - 1}, true
}

func (r *Receiver) knows() bool { return r.next > 0 }
