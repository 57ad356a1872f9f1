package link

import (
	"bytes"

	"farebox/api"
)

// Sender sends a queue's items, and sends them again.
type Sender struct {
	window, batch, every int
	clock                int
	sent                 map[int]int // by an item's number: the tick at which it was sent last; of those alone that are not due again
}

// NewSender is one.
func NewSender(window, batch, every int) (*Sender, api.Errno) {
	if !within(window, 1, api.MaxWindow) || !within(batch, 1, api.MaxBatch) || !within(every, 1, api.MaxEvery) {
		return nil, api.ErrArg
	}
	return &Sender{window: window, batch: batch, every: every, sent: map[int]int{}}, api.OK
}

// Tick goes on by a tick: the frames that are sent now of a queue that has these items.
func (s *Sender) Tick(items []api.Item) []api.Frame {
	s.clock++
	if !isQueue(items) {
		return nil
	}
	s.forget(items)
	var frames []api.Frame
	for _, x := range items[:min(len(items), s.window)] {
		if _, is := s.sent[x.Seq]; is {
			continue
		}
		s.sent[x.Seq] = s.clock
		if !s.joins(frames, x.Seq) {
			frames = append(frames, api.Frame{Kind: kindItems, Base: items[0].Seq, Seq: x.Seq})
		}
		last := &frames[len(frames)-1]
		last.Items = append(last.Items, bytes.Clone(x.Bytes))
	}
	return frames
}

// isQueue tells whether a list can be a queue's first items.
func isQueue(items []api.Item) bool {
	for i, x := range items {
		if !within(x.Seq, 1, api.MaxCounter) || isLong(x.Bytes) {
			return false
		}
		if i > 0 && x.Seq != items[i-1].Seq+1 {
			return false
		}
	}
	return true
}

// forget drops what the queue let go, and what is due again: that is as if it had never been sent, and so what is kept does not grow with the ticks.
func (s *Sender) forget(items []api.Item) {
	for seq, tick := range s.sent {
		if len(items) == 0 || seq < items[0].Seq || s.clock-tick >= s.every {
			delete(s.sent, seq)
		}
	}
}

// joins tells whether the item with that number goes into the last frame.
func (s *Sender) joins(frames []api.Frame, seq int) bool {
	if len(frames) == 0 {
		return false
	}
	last := frames[len(frames)-1]
	return len(last.Items) < s.batch && last.Seq+len(last.Items) == seq
}
