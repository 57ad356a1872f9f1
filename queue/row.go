package queue

import "farebox/api"

// row are items, one behind another; the first has the number behind acked.
type row struct {
	acked int
	items [][]byte
}

func (r row) last() int { return r.acked + len(r.items) }

// behind is the row that a change makes of this one, which stays as it is.
func (r row) behind(c change) row {
	switch c.kind {
	case kindPut:
		return row{r.acked, append(r.items, c.item)}
	case kindAck:
		return row{c.seq, r.items[c.seq-r.acked:]}
	}
	return row{acked: c.seq}
}

// become goes on as the row behind a change. What was let go is cleared: the array in which the others stand would keep it.
func (r *row) become(after row) {
	gone := min(after.acked-r.acked, len(r.items))
	clear(r.items[:gone])
	*r = after
}

// records are the fewest that tell the row.
func (r row) records() [][]byte {
	l := [][]byte{change{kind: kindBase, seq: r.acked}.record()}
	for i, b := range r.items {
		l = append(l, change{kindPut, r.acked + 1 + i, b}.record())
	}
	return l
}

// rowOf is the row that a log's records tell; false: they are no queue's.
func rowOf(records [][]byte) (row, bool) {
	var r row
	for i, b := range records {
		c, is := readChange(b)
		if !is || !r.mayHave(c, i == 0) {
			return row{}, false
		}
		r.become(r.behind(c))
	}
	return r, true
}

// mayHave tells whether a queue with this row could have noted a change.
func (r row) mayHave(c change, first bool) bool {
	switch c.kind {
	case kindBase:
		return first
	case kindPut:
		return c.seq == r.last()+1 && len(r.items) < api.MaxItems
	case kindAck:
		return c.seq > r.acked && c.seq <= r.last()
	}
	return false
}
