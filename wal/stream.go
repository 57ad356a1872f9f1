package wal

import (
	"bytes"
	"slices"

	"farebox/api"
	"farebox/sum"
	"farebox/wire"
)

// fieldSize is how many bytes each of the three numbers ahead of a record has.
const fieldSize = api.LogHead / 3

// stream is one that frames are put into.
type stream struct {
	half
	epoch   int
	records int
	next    int    // the place at which the next frame begins
	ahead   []byte // what stands ahead of it in its sector, to be written again with it
}

// put writes the frame of one more record. If a write is refused, the stream stays as it was.
func (s *stream) put(b []byte) error {
	sector := s.next / api.LogPart
	some := slices.Concat(s.ahead, frameHead(b, s.records), b)
	for i := range (len(some) + api.LogPart - 1) / api.LogPart {
		part := some[i*api.LogPart : min((i+1)*api.LogPart, len(some))]
		if err := s.disk.Write(s.first+sector+i, stamped(s.epoch, part)); err != nil {
			return err
		}
	}
	s.records++
	s.next = begin(sector*api.LogPart + len(some))
	behind := (s.next/api.LogPart - sector) * api.LogPart
	s.ahead = bytes.Clone(some[min(behind, len(some)):])
	return nil
}

// begin is the first place from this one on at which a frame may begin.
func begin(place int) int {
	if left := api.LogPart - place%api.LogPart; left < api.LogHead {
		return place + left
	}
	return place
}

// frameHead is what stands ahead of a record in its frame, if so many records stand ahead of that.
func frameHead(b []byte, ahead int) []byte {
	w := wire.NewWriter()
	w.Number(len(b), fieldSize)
	w.Number(ahead, fieldSize)
	first, _ := w.Bytes()               // a half has no room for numbers that do not fit
	s, _ := sum.More(sum.Sum(first), b) // a sum is one
	w.Number(s, fieldSize)
	all, _ := w.Bytes()
	return all
}

// recordsIn are those of a stream.
func recordsIn(parts []byte) [][]byte {
	var l [][]byte
	place := 0
	for {
		place = begin(place)
		b, is := recordAt(parts[min(place, len(parts)):], len(l))
		if !is {
			return l
		}
		l = append(l, b)
		place += api.LogHead + len(b)
	}
}

// recordAt is the record whose frame some bytes begin with; false: there is none. Whether it is its frame is asked by making it.
func recordAt(some []byte, ahead int) ([]byte, bool) {
	if len(some) < api.LogHead {
		return nil, false
	}
	size := wire.NewReader(some[:fieldSize]).Number(fieldSize)
	if size > len(some)-api.LogHead {
		return nil, false
	}
	b := some[api.LogHead : api.LogHead+size]
	if !bytes.Equal(some[:api.LogHead], frameHead(b, ahead)) {
		return nil, false
	}
	return bytes.Clone(b), true
}
