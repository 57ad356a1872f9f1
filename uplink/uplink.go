// Package uplink is what gates and hubs have in common: items that wait on a disk until they are let go, and the frames by which they go up.
package uplink

import (
	"farebox/api"
	"farebox/block"
	"farebox/link"
	"farebox/queue"
)

// Uplink is one.
type Uplink struct {
	row
	secret string
	sender *link.Sender
}

// Open goes on with the items that stand on a disk, or begins with none; the errors are queue.Open's. Secret is that of the link.
func Open(d *block.Disk, limit int, secret string) (*Uplink, error) {
	q, err := queue.Open(d, limit)
	if err != nil {
		return nil, err
	}
	sender, _ := link.NewSender(api.LinkWindow, api.LinkBatch, api.LinkEvery) // these may be
	return &Uplink{row: row{queue: q}, secret: secret, sender: sender}, nil
}

// Tick goes on by a tick: the frames that are sent now, behind them the one that tells which version of the risk list there is. One that may not be is left out: there are versions that no frame has room for.
func (u *Uplink) Tick(version int) [][]byte {
	frames := u.sender.Tick(u.First(api.LinkWindow))
	frames = append(frames, api.Frame{Kind: api.FrameHave, Seq: version})
	var l [][]byte
	for _, f := range frames {
		if b, e := link.Make(u.secret, f); e == api.OK {
			l = append(l, b)
		}
	}
	return l
}

// Parse is a frame that came down.
func (u *Uplink) Parse(b []byte) (api.Frame, api.Errno) { return link.Parse(u.secret, b) }
