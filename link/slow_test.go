package link_test

import (
	"bytes"
	"crypto/hmac"
	"crypto/sha256"
	"encoding/binary"

	"farebox/api"
)

// This file tells the chapter slowly, word by word, with the library's own means.

func slowMac(secret string, b []byte) []byte {
	h := hmac.New(sha256.New, []byte(secret))
	h.Write(b)
	return h.Sum(nil)
}

func slowSeal(secret string, b []byte) []byte {
	return append(bytes.Clone(b), slowMac(secret, b)[:16]...)
}

func slowKey(secret string, number int) string {
	return string(slowMac(secret, binary.BigEndian.AppendUint16([]byte("device"), uint16(number))))
}

// slowMayBe is the table of frames.
func slowMayBe(f api.Frame) bool {
	noItems, noBytes := len(f.Items) == 0, len(f.Bytes) == 0
	switch f.Kind {
	case 1:
		if !noBytes || noItems || len(f.Items) > 8 {
			return false
		}
		for i, b := range f.Items {
			if len(b) > 256 || f.Seq > 1<<32-1 || f.Seq+i > 1<<32-1 {
				return false
			}
		}
		return 1 <= f.Base && f.Base <= f.Seq
	case 2:
		return f.Base == 0 && noItems && noBytes && f.Seq >= 0 && f.Seq <= 1<<32-1
	case 3:
		return f.Base == 0 && noItems && noBytes && f.Seq >= 0 && f.Seq <= 1<<31
	case 4:
		return f.Base == 0 && f.Seq == 0 && noItems && len(f.Bytes) <= 16100
	}
	return false
}

// slowBytes are those of a frame that may be.
func slowBytes(f api.Frame) []byte {
	b := []byte{byte(f.Kind)}
	text := func(s []byte) {
		b = append(binary.BigEndian.AppendUint16(b, uint16(len(s))), s...)
	}
	switch f.Kind {
	case 1:
		b = binary.BigEndian.AppendUint64(b, uint64(f.Base))
		b = binary.BigEndian.AppendUint64(b, uint64(f.Seq))
		b = binary.BigEndian.AppendUint16(b, uint16(len(f.Items)))
		for _, s := range f.Items {
			text(s)
		}
	case 2, 3:
		b = binary.BigEndian.AppendUint64(b, uint64(f.Seq))
	case 4:
		text(f.Bytes)
	}
	return b
}

// slowRead looks for the frame whose bytes these are: it takes apart as much as there is, and asks whether the frame that comes out has just these bytes.
func slowRead(b []byte) (api.Frame, bool) {
	var f api.Frame
	at := 0
	number := func(size int) int {
		n := uint64(0)
		for range size {
			n <<= 8
			if at < len(b) {
				n |= uint64(b[at])
			}
			at++
		}
		return int(n)
	}
	text := func() []byte {
		size := number(2)
		from := min(at, len(b))
		at = min(from+size, len(b))
		return bytes.Clone(b[from:at])
	}
	f.Kind = number(1)
	switch f.Kind {
	case 1:
		f.Base, f.Seq = number(8), number(8)
		for range min(number(2), 9) { // one more than there may be is as wrong as many
			f.Items = append(f.Items, text())
		}
	case 2, 3:
		f.Seq = number(8)
	case 4:
		f.Bytes = text()
	}
	if !slowMayBe(f) || !bytes.Equal(slowBytes(f), b) {
		return api.Frame{}, false
	}
	return f, true
}

// sending is that of one item, at a tick.
type sending struct{ seq, tick int }

// slowSender knows each sending that is not forgotten.
type slowSender struct {
	window, batch, every int
	clock                int
	sendings             []sending
}

func slowIsQueue(items []api.Item) bool {
	for i, x := range items {
		if x.Seq < 1 || x.Seq > 1<<32-1 || len(x.Bytes) > 256 || i > 0 && x.Seq-items[i-1].Seq != 1 {
			return false
		}
	}
	return true
}

func (s *slowSender) isDue(seq int) bool {
	for _, x := range s.sendings {
		if x.seq == seq && s.clock-x.tick < s.every {
			return false
		}
	}
	return true
}

func (s *slowSender) tick(items []api.Item) []api.Frame {
	s.clock++
	if !slowIsQueue(items) {
		return nil
	}
	if len(items) == 0 {
		s.sendings = nil
		return nil
	}
	var kept []sending
	for _, x := range s.sendings {
		if x.seq >= items[0].Seq {
			kept = append(kept, x)
		}
	}
	s.sendings = kept
	var rows [][]api.Item
	for i, x := range items {
		if i >= s.window || !s.isDue(x.Seq) {
			continue
		}
		if i == 0 || !s.isDue(items[i-1].Seq) {
			rows = append(rows, nil)
		}
		rows[len(rows)-1] = append(rows[len(rows)-1], x)
	}
	var frames []api.Frame
	for _, row := range rows {
		for len(row) > s.batch {
			frames = append(frames, s.send(items[0].Seq, row[:s.batch]))
			row = row[s.batch:]
		}
		frames = append(frames, s.send(items[0].Seq, row))
	}
	return frames
}

func (s *slowSender) send(base int, row []api.Item) api.Frame {
	f := api.Frame{Kind: 1, Base: base, Seq: row[0].Seq}
	for _, x := range row {
		f.Items = append(f.Items, bytes.Clone(x.Bytes))
		s.sendings = append(s.sendings, sending{x.Seq, s.clock})
	}
	return f
}

// slowReceiver is P12.4 and P12.5.
type slowReceiver struct {
	knows bool
	next  int
}

func (r *slowReceiver) got(f api.Frame) []api.Item {
	if f.Kind != 1 || !slowMayBe(f) {
		return nil
	}
	if !r.knows || r.next < f.Base {
		r.knows, r.next = true, f.Base
	}
	var all []api.Item
	for i, b := range f.Items {
		all = append(all, api.Item{Seq: f.Seq + i, Bytes: bytes.Clone(b)})
	}
	for i, x := range all {
		if x.Seq == r.next {
			return all[i:]
		}
	}
	return nil
}

func (r *slowReceiver) take(seq int) {
	if r.knows && seq >= r.next && seq <= 1<<32-1 {
		r.next = seq + 1
	}
}

func (r *slowReceiver) ack() (api.Frame, bool) {
	if !r.knows {
		return api.Frame{}, false
	}
	return api.Frame{Kind: 2, Seq: r.next - 1}, true
}
