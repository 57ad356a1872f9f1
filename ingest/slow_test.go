package ingest_test

import (
	"bytes"
	"crypto/hmac"
	"crypto/sha256"
	"encoding/binary"
	"maps"
	"slices"

	"farebox/api"
	"farebox/link"
)

// Here the chapter is told slowly: an office without a disk.

type slowOffice struct {
	setup   api.Office
	room    int
	entries map[string]string
	next    map[int]int // by a hub: the number that comes next, if it is known
	dead    bool
}

func slowMac(secret string, b ...byte) string {
	m := hmac.New(sha256.New, []byte(secret))
	m.Write(b)
	return string(m.Sum(nil))
}

func slowKey(secret string, number int) string {
	return slowMac(secret, append([]byte("device"), byte(number>>8), byte(number))...)
}

func slowSecret(secret string, number int) string { return slowKey(slowKey(secret, number), 0) }

func slowSeal(secret string, b []byte) []byte {
	return append(bytes.Clone(b), slowMac(secret, b...)[:16]...)
}

// slowTap are a tap's bytes, also of one that may not be.
func slowTap(t api.Tap) []byte {
	b := binary.BigEndian.AppendUint16(nil, uint16(t.Device))
	b = binary.BigEndian.AppendUint32(b, uint32(t.Counter))
	b = append(append(b, t.Token...), byte(t.Kind))
	b = binary.BigEndian.AppendUint16(b, uint16(t.Place))
	return binary.BigEndian.AppendUint32(b, uint32(t.Time))
}

// slowRead is the tap whose bytes these are.
func slowRead(b []byte) (api.Tap, bool) {
	if len(b) != 21 {
		return api.Tap{}, false
	}
	t := api.Tap{
		Device:  int(binary.BigEndian.Uint16(b)),
		Counter: int(binary.BigEndian.Uint32(b[2:])),
		Token:   string(b[6:14]),
		Kind:    int(b[14]),
		Place:   int(binary.BigEndian.Uint16(b[15:])),
		Time:    int(binary.BigEndian.Uint32(b[17:])),
	}
	is := t.Device > 0 && t.Counter > 0 && t.Kind > 0 && t.Kind < 4 && t.Place > 0 && t.Time <= 1<<31
	return t, is && (t.Kind != 3 || t.Place <= 1000)
}

// slowTapKey and slowCounterKey are what a tap stands under, and its counter.
func slowTapKey(t api.Tap) string {
	b := slowTap(t)
	return "t" + t.Token + string(b[17:21]) + string(b[:6])
}

func slowCounterKey(t api.Tap) string { return "x" + string(slowTap(t)[:6]) }

func slowBadKey(n uint64) string {
	return string(binary.BigEndian.AppendUint64([]byte("q"), n))
}

// slowRoom is chapter 11's.
func slowRoom(sectors int) int { return (504*((sectors-2)/2) - 48) / 2 }

func newSlow(setup api.Office, sectors int) *slowOffice {
	s := &slowOffice{setup: setup, room: slowRoom(sectors), entries: map[string]string{}}
	s.open()
	return s
}

// open is what an Open leaves: what is not on the disk is made anew.
func (s *slowOffice) open() { s.next, s.dead = map[int]int{}, false }

// clone is the office as it stands; entries are never changed in place.
func (s *slowOffice) clone() *slowOffice {
	c := *s
	c.next = maps.Clone(s.next)
	return &c
}

// secret is that of a hub's link.
func (s *slowOffice) secret(hub int) string { return slowSecret(s.setup.Secret, hub) }

func (s *slowOffice) got(hub int, b []byte) ([][]byte, api.Errno) {
	if s.dead {
		return nil, api.ErrIngestDead
	}
	if !slices.Contains(s.setup.Hubs, hub) {
		return nil, api.ErrIngestHub
	}
	f, e := link.Parse(s.secret(hub), b)
	switch {
	case e != api.OK:
		return nil, e
	case f.Kind != 1:
		return nil, api.ErrLinkForm
	}
	s.next[hub] = max(s.next[hub], f.Base)
	next := s.next[hub]
	entries := maps.Clone(s.entries)
	for i, item := range f.Items {
		if f.Seq+i == next {
			s.judge(entries, item)
			next++
		}
	}
	if e := s.commit(entries); e != api.OK {
		return nil, e
	}
	s.next[hub] = next
	ack := binary.BigEndian.AppendUint64([]byte{2}, uint64(next-1))
	return [][]byte{slowSeal(s.secret(hub), ack)}, api.OK
}

// judge does to entries what an item does.
func (s *slowOffice) judge(entries map[string]string, item []byte) {
	tap, is := s.opened(item)
	if !is {
		aside(entries, item)
		return
	}
	if _, known := entries[slowTapKey(tap)]; known {
		return
	}
	tokens := map[string]int{}
	for key := range entries {
		if key[0] == 't' && len(key) >= 9 {
			tokens[key[1:9]]++
		}
	}
	_, used := entries[slowCounterKey(tap)]
	if used || tokens[tap.Token] >= 2000 || tokens[tap.Token] == 0 && len(tokens) >= 1000 {
		aside(entries, item)
		return
	}
	entries[slowTapKey(tap)] = string(slowTap(tap))
	entries[slowCounterKey(tap)] = ""
}

// opened is the tap that an item is, under the right seal.
func (s *slowOffice) opened(item []byte) (api.Tap, bool) {
	if len(item) < 16 {
		return api.Tap{}, false
	}
	b := item[:len(item)-16]
	tap, is := slowRead(b)
	return tap, is && bytes.Equal(item, slowSeal(slowKey(s.setup.Secret, tap.Device), b))
}

// aside puts an item aside.
func aside(entries map[string]string, item []byte) {
	last := uint64(0)
	for key := range entries {
		if key[0] == 'q' && len(key) == 9 {
			last = max(last, binary.BigEndian.Uint64([]byte(key[1:])))
		}
	}
	entries[slowBadKey(last+1)] = string(item)
}

// commit makes entries those of the office, if there is room for them.
func (s *slowOffice) commit(entries map[string]string) api.Errno {
	batch, size := 0, 0
	for key, value := range entries {
		size += 5 + len(key) + len(value)
		if was, is := s.entries[key]; !is || was != value {
			batch += 5 + len(key) + len(value)
		}
	}
	for key := range s.entries {
		if _, is := entries[key]; !is {
			batch += 5 + len(key)
		}
	}
	switch {
	case batch > s.room:
		return api.ErrBig
	case size > s.room:
		return api.ErrFull
	}
	s.entries = entries
	return api.OK
}

// keys are those that begin with a letter, in order; of no letter, all.
func (s *slowOffice) keys(letter string) []string {
	var l []string
	for key := range s.entries {
		if key[:len(letter)] == letter {
			l = append(l, key)
		}
	}
	slices.Sort(l)
	return l
}

func (s *slowOffice) taps() []api.Tap {
	var l []api.Tap
	for _, key := range s.keys("t") {
		if tap, is := slowRead([]byte(s.entries[key])); is && slowTapKey(tap) == key {
			l = append(l, tap)
		}
	}
	return l
}

func (s *slowOffice) bad() [][]byte {
	var l [][]byte
	for _, key := range s.keys("q") {
		if len(key) == 9 {
			l = append(l, []byte(s.entries[key]))
		}
	}
	return l
}
