package hub_test

import (
	"bytes"
	"crypto/hmac"
	"crypto/sha256"
	"encoding/binary"
	"maps"
	"slices"

	"farebox/api"
	"farebox/link"
	"farebox/record"
)

// Here the chapter is told slowly: a hub without a disk.

type slowHub struct {
	setup  api.Hub
	items  []api.Item
	last   int
	list   api.RiskList
	deltas [][]byte    // that made the versions from 1 on
	next   map[int]int // by a gate: the number that comes next, if it is known
	sender *link.Sender
	dead   bool
}

func slowMac(secret string, b ...byte) string {
	m := hmac.New(sha256.New, []byte(secret))
	m.Write(b)
	return string(m.Sum(nil))
}

func slowKey(secret string, number int) string {
	return slowMac(secret, append([]byte("device"), byte(number>>8), byte(number))...)
}

func slowSecret(secret string, number int) string { return slowKey(slowKey(secret, number), 0) }

func slowSeal(secret string, b []byte) []byte {
	return append(bytes.Clone(b), slowMac(secret, b...)[:16]...)
}

// slowDelta are a delta's bytes.
func slowDelta(d api.Delta) []byte {
	b := binary.BigEndian.AppendUint64(nil, uint64(d.Version))
	for _, l := range [][]string{d.Add, d.Gone} {
		b = binary.BigEndian.AppendUint16(b, uint16(len(l)))
		for _, s := range l {
			b = append(b, s...)
		}
	}
	return b
}

func newSlow(setup api.Hub) *slowHub {
	s := &slowHub{setup: setup}
	s.open()
	return s
}

// open is what an Open leaves: what is not on the disk is made anew.
func (s *slowHub) open() {
	s.dead = false
	s.sender, _ = link.NewSender(8, 4, 3)
	s.next = map[int]int{}
}

// clone is the hub as it stands, but for its sender.
func (s *slowHub) clone() *slowHub {
	c := *s
	c.items = slices.Clone(s.items)
	c.deltas = slices.Clone(s.deltas)
	c.next = maps.Clone(s.next)
	return &c
}

// secret is that of the link of a node: a gate's, or the hub's own.
func (s *slowHub) secret(number int) string { return slowSecret(s.setup.Secret, number) }

func (s *slowHub) got(gate int, b []byte) ([][]byte, api.Errno) {
	if s.dead {
		return nil, api.ErrHubDead
	}
	if !slices.Contains(s.setup.Gates, gate) {
		return nil, api.ErrHubGate
	}
	f, e := link.Parse(s.secret(gate), b)
	if e != api.OK {
		return nil, e
	}
	switch f.Kind {
	case 1:
		s.take(gate, f)
		ack := binary.BigEndian.AppendUint64([]byte{2}, uint64(s.next[gate]-1))
		return [][]byte{slowSeal(s.secret(gate), ack)}, api.OK
	case 3:
		if f.Seq >= s.list.Version {
			return nil, api.OK
		}
		d := s.deltas[f.Seq]
		return [][]byte{slowSeal(s.secret(gate), append([]byte{4, byte(len(d) >> 8), byte(len(d))}, d...))}, api.OK
	}
	return nil, api.ErrLinkForm
}

// take takes a frame's items one by one: that which comes next, if there is room for it.
func (s *slowHub) take(gate int, f api.Frame) {
	s.next[gate] = max(s.next[gate], f.Base)
	for i, b := range f.Items {
		if f.Seq+i == s.next[gate] && len(s.items) < s.setup.Limit && s.last < 1<<32-1 {
			s.last++
			s.items = append(s.items, api.Item{Seq: s.last, Bytes: bytes.Clone(b)})
			s.next[gate]++
		}
	}
}

func (s *slowHub) tick() [][]byte {
	if s.dead {
		return nil
	}
	secret := s.secret(s.setup.Number)
	var l [][]byte
	for _, f := range s.sender.Tick(s.waiting(8)) {
		b, _ := link.Make(secret, f)
		l = append(l, b)
	}
	return append(l, slowSeal(secret, binary.BigEndian.AppendUint64([]byte{3}, uint64(s.list.Version))))
}

func (s *slowHub) gotDown(b []byte) api.Errno {
	if s.dead {
		return api.ErrHubDead
	}
	f, e := link.Parse(s.secret(s.setup.Number), b)
	switch {
	case e != api.OK:
		return e
	case f.Kind == 2 && f.Seq > s.last:
		return api.ErrArg
	case f.Kind == 2:
		s.items = slices.DeleteFunc(slices.Clone(s.items), func(x api.Item) bool { return x.Seq <= f.Seq })
		return api.OK
	case f.Kind != 4:
		return api.ErrLinkForm
	}
	d, fault := record.ReadDelta(f.Bytes)
	if fault.Code != api.OK {
		return api.ErrRecord
	}
	return s.follow(d)
}

// follow makes the list the next one, token by token.
func (s *slowHub) follow(d api.Delta) api.Errno {
	if d.Version != s.list.Version+1 {
		return api.ErrRiskVersion
	}
	is := map[string]int{}
	for _, token := range s.list.Tokens {
		is[token] = 1
	}
	for _, token := range d.Add {
		if is[token]++; is[token] > 1 {
			return api.ErrRiskToken
		}
	}
	for _, token := range d.Gone {
		if is[token] == 0 {
			return api.ErrRiskToken
		}
		delete(is, token)
	}
	if len(is) > 1000 {
		return api.ErrLong
	}
	next := *s
	next.list = api.RiskList{Version: d.Version, Tokens: slices.Sorted(maps.Keys(is))}
	next.deltas = append(slices.Clone(s.deltas), slowDelta(d))
	if next.size() > 50124 {
		return api.ErrFull
	}
	*s = next
	return api.OK
}

// entries are those that the hub's store has, in order: a key and a value each.
func (s *slowHub) entries() []string {
	var l []string
	for i, d := range s.deltas {
		l = append(l, string(binary.BigEndian.AppendUint64([]byte("d"), uint64(i+1))), string(d))
	}
	if s.list.Version > 0 {
		l = append(l, "l", string(slowDelta(api.Delta{Version: s.list.Version, Add: s.list.Tokens})))
	}
	return l
}

// size is what they count.
func (s *slowHub) size() int {
	n := 0
	for i, x := range s.entries() {
		n += len(x) + 5*(1-i%2)
	}
	return n
}

func (s *slowHub) waiting(most int) []api.Item {
	var l []api.Item
	for _, x := range s.items {
		if len(l) < most {
			l = append(l, x)
		}
	}
	return l
}
