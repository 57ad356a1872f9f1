package gate_test

import (
	"bytes"
	"crypto/hmac"
	"crypto/sha256"
	"encoding/binary"
	"maps"
	"slices"

	"farebox/api"
	"farebox/link"
	"farebox/record"
	"farebox/risk"
)

// Here the chapter is told slowly: a gate without a disk.

type slowGate struct {
	setup  api.Gate
	items  []api.Item
	last   int
	list   api.RiskList
	times  map[string]int
	sender *link.Sender
	dead   bool
}

func slowMac(secret string, b ...byte) string {
	m := hmac.New(sha256.New, []byte(secret))
	m.Write(b)
	return string(m.Sum(nil))
}

func slowKey(secret string, device int) string {
	return slowMac(secret, append([]byte("device"), byte(device>>8), byte(device))...)
}

func slowSecret(secret string, device int) string { return slowKey(slowKey(secret, device), 0) }

func slowSeal(secret string, b []byte) []byte {
	return append(bytes.Clone(b), slowMac(secret, b...)[:16]...)
}

// slowTap are a tap's bytes, also of one that may not be.
func slowTap(t api.Tap) []byte {
	b := binary.BigEndian.AppendUint16(nil, uint16(t.Device))
	b = binary.BigEndian.AppendUint32(b, uint32(t.Counter))
	b = append(b, t.Token...)
	b = append(b, byte(t.Kind))
	b = binary.BigEndian.AppendUint16(b, uint16(t.Place))
	return binary.BigEndian.AppendUint32(b, uint32(t.Time))
}

// slowSealed is a tap as a gate with that secret puts it into its queue.
func slowSealed(secret string, t api.Tap) []byte {
	return slowSeal(slowKey(secret, t.Device), slowTap(t))
}

func newSlow(setup api.Gate) *slowGate {
	s := &slowGate{setup: setup}
	s.open()
	return s
}

// open is what an Open leaves: what is not on the disk is made anew.
func (s *slowGate) open() {
	s.dead = false
	s.sender, _ = link.NewSender(8, 4, 3)
	s.times = map[string]int{}
	for _, x := range s.items {
		token, time := x.Bytes[6:14], binary.BigEndian.Uint32(x.Bytes[17:21])
		s.times[string(token)] = int(time)
	}
}

// clone is the gate as it stands, but for its sender.
func (s *slowGate) clone() *slowGate {
	c := *s
	c.items = slices.Clone(s.items)
	c.times = maps.Clone(s.times)
	return &c
}

func slowTapMayBe(token string, kind, place, time int) bool {
	most := 65535
	if kind == 3 {
		most = 1000
	}
	return len(token) == 8 && kind >= 1 && kind <= 3 && place >= 1 && place <= most && time >= 0 && time <= 1<<31
}

func (s *slowGate) present(token string, kind, place, time int) (int, int, api.Errno) {
	if s.dead {
		return 0, 0, api.ErrGateDead
	}
	if !slowTapMayBe(token, kind, place, time) {
		return 0, 0, api.ErrRecord
	}
	if slices.Contains(s.list.Tokens, token) {
		return api.VerdictListed, 0, api.OK
	}
	if last, is := s.times[token]; is {
		for apart := range s.setup.Passback {
			if time == last+apart || time == last-apart {
				return api.VerdictPassback, 0, api.OK
			}
		}
	}
	if len(s.items) == s.setup.Limit {
		return api.VerdictFull, 0, api.OK
	}
	if s.last == 1<<32-1 {
		return 0, 0, api.ErrBig
	}
	s.last++
	tap := api.Tap{Device: s.setup.Device, Counter: s.last, Token: token, Kind: kind, Place: place, Time: time}
	s.items = append(s.items, api.Item{Seq: s.last, Bytes: slowSealed(s.setup.Secret, tap)})
	s.times[token] = time
	return api.VerdictAccepted, s.last, api.OK
}

func (s *slowGate) secret() string { return slowSecret(s.setup.Secret, s.setup.Device) }

func (s *slowGate) tick() [][]byte {
	if s.dead {
		return nil
	}
	var l [][]byte
	for _, f := range s.sender.Tick(s.waiting(8)) {
		b, _ := link.Make(s.secret(), f)
		l = append(l, b)
	}
	if s.list.Version <= api.MaxRuns {
		l = append(l, slowSeal(s.secret(), binary.BigEndian.AppendUint64([]byte{3}, uint64(s.list.Version))))
	}
	return l
}

func (s *slowGate) got(b []byte) api.Errno {
	if s.dead {
		return api.ErrGateDead
	}
	f, e := link.Parse(s.secret(), b)
	switch {
	case e != api.OK:
		return e
	case f.Kind == api.FrameAck && f.Seq > s.last:
		return api.ErrArg
	case f.Kind == api.FrameAck:
		s.items = slices.DeleteFunc(slices.Clone(s.items), func(x api.Item) bool { return x.Seq <= f.Seq })
		return api.OK
	case f.Kind != api.FrameDelta:
		return api.ErrLinkForm
	}
	d, fault := record.ReadDelta(f.Bytes)
	if fault.Code != api.OK {
		return api.ErrRecord
	}
	next, e := risk.Apply(s.list, d)
	if e == api.OK {
		s.list = next
	}
	return e
}

func (s *slowGate) waiting(most int) []api.Item {
	var l []api.Item
	for _, x := range s.items {
		if len(l) < most {
			l = append(l, x)
		}
	}
	return l
}
