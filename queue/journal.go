package queue

import "farebox/wal"

// journal is a queue's log, in which its changes are noted. The log is embedded here and not in the queue itself: who holds a queue must not reach what would write past it.
type journal struct {
	*wal.Log
	dead bool
}

// note writes a change down, or, where there is no room for it, the row behind it in place of all that was noted. The room of a disk that is large enough for the limit always holds a row.
func (j *journal) note(c change, after row) error {
	if b := c.record(); len(b) <= j.Room() {
		return j.notice(j.Append(b))
	}
	return j.notice(j.Rewrite(after.records()))
}

func (j *journal) sync() error { return j.notice(j.Sync()) }

// notice knows a queue as dead as soon as its log failed.
func (j *journal) notice(err error) error {
	j.dead = err != nil
	return err
}
