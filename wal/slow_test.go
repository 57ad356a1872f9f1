package wal_test

import (
	"bytes"
	"encoding/binary"
	"hash/crc32"

	"farebox/api"
	"farebox/block"
)

// This file tells the chapter slowly, word by word, with the library's own means. A slow log does its acts on a disk of its own, a twin of the one that is looked at.

func slowSum(b []byte) uint32 { return crc32.Checksum(b, crc32.MakeTable(crc32.Castagnoli)) }

// sector is one that begins with these bytes.
func sector(b ...[]byte) []byte {
	all := bytes.Join(b, nil)
	return append(all, make([]byte, max(0, 512-len(all)))...)
}

func eight(n uint64) []byte { return binary.BigEndian.AppendUint64(nil, n) }

func four(n int) []byte { return binary.BigEndian.AppendUint32(nil, uint32(n)) }

// slowHead is a head's sector, also of what may not be.
func slowHead(g uint64, half byte) []byte {
	b := append(append([]byte{70, 66, 87, 76}, eight(g)...), half)
	return sector(binary.LittleEndian.AppendUint32(b, slowSum(b)))
}

// slowMayBe is what a head's sector says, if it may be.
func slowMayBe(b []byte) (g, half int, is bool) {
	n := binary.BigEndian.Uint64(b[4:])
	if n < 1 || n > 1<<48 || b[12] > 1 || !bytes.Equal(b, slowHead(n, b[12])) {
		return 0, 0, false
	}
	return int(n), int(b[12]), true
}

// slowHolds is the sector of the head that holds, and what it says; -1: there is none.
func slowHolds(h *block.Hand) (at, g, half int) {
	g0, half0, is0 := slowMayBe(h.Sector(0))
	g1, half1, is1 := slowMayBe(h.Sector(1))
	switch {
	case is1 && (!is0 || g1 > g0):
		return 1, g1, half1
	case is0:
		return 0, g0, half0
	}
	return -1, 0, 0
}

// slowFrame is a record's frame.
func slowFrame(b []byte, ahead int) []byte {
	first := append(four(len(b)), four(ahead)...)
	s := slowSum(append(bytes.Clone(first), b...))
	return append(binary.BigEndian.AppendUint32(first, s), b...)
}

// slowPlace is a stream up to where its next frame begins.
func slowPlace(stream []byte) []byte {
	for 504-len(stream)%504 < 12 {
		stream = append(stream, 0)
	}
	return stream
}

// slowStream are the frames of records, one behind another, up to the end of the last.
func slowStream(records [][]byte) []byte {
	var stream []byte
	for i, b := range records {
		stream = append(slowPlace(stream), slowFrame(b, i)...)
	}
	return stream
}

// slowRecords are the records of a half, for a G.
func slowRecords(h *block.Hand, sectors, half, g int) [][]byte {
	var stream []byte
	many := (sectors - 2) / 2
	for i := range many {
		b := h.Sector(2 + half*many + i)
		if !bytes.HasPrefix(b, eight(uint64(g))) {
			break
		}
		stream = append(stream, b[8:]...)
	}
	var l [][]byte
	at := 0
	for {
		at = len(slowPlace(make([]byte, at)))
		if at+12 > len(stream) {
			return l
		}
		size := int(binary.BigEndian.Uint32(stream[at:]))
		if at+12+size > len(stream) {
			return l
		}
		b := stream[at+12 : at+12+size]
		if !bytes.HasPrefix(stream[at:], slowFrame(b, len(l))) {
			return l
		}
		l = append(l, b)
		at += 12 + size
	}
}

// slowLog is a log, all records of which are kept beside the disk.
type slowLog struct {
	hand          *block.Hand
	disk          *block.Disk
	half, g       int
	records       [][]byte
	number        int
	dead          bool
	sectors, many int
}

func slowOpen(h *block.Hand) (*slowLog, [][]byte, api.Errno) {
	d := h.Disk()
	sectors := d.Sectors()
	if sectors < 4 || sectors > 1<<20 {
		return nil, nil, api.ErrArg
	}
	if h.Down() {
		return nil, nil, api.ErrDown
	}
	at, g, half := slowHolds(h)
	if g > 1<<47 {
		return nil, nil, api.ErrWal
	}
	var found [][]byte
	if at >= 0 {
		found = slowRecords(h, sectors, half, g)
	}
	l := &slowLog{hand: h, disk: d, sectors: sectors, many: (sectors - 2) / 2}
	if e := l.rewrite(found); e != api.OK {
		return nil, nil, e
	}
	return l, found, api.OK
}

func (l *slowLog) room() int { return 504*l.many - len(slowPlace(slowStream(l.records))) - 12 }

// put does the writes of one more record, and tells whether all were carried out.
func (l *slowLog) put(half, g int, ahead [][]byte, b []byte) bool {
	begin := len(slowPlace(slowStream(ahead)))
	stream := append(slowPlace(slowStream(ahead)), slowFrame(b, len(ahead))...)
	for i := range l.many {
		from := 504 * i
		if from+504 <= begin || from >= len(stream) {
			continue
		}
		part := stream[from:min(from+504, len(stream))]
		if l.disk.Write(2+half*l.many+i, sector(eight(uint64(g)), part)) != nil {
			return false
		}
	}
	return true
}

func (l *slowLog) die() api.Errno {
	l.dead = true
	return api.ErrDown
}

func (l *slowLog) append(b []byte) api.Errno {
	switch {
	case l.dead:
		return api.ErrWalDead
	case len(b) > l.room():
		return api.ErrWalFull
	case !l.put(l.half, l.g, l.records, b):
		return l.die()
	}
	l.records = append(l.records[:len(l.records):len(l.records)], bytes.Clone(b))
	return api.OK
}

func (l *slowLog) sync() api.Errno {
	switch {
	case l.dead:
		return api.ErrWalDead
	case l.disk.Sync() != nil:
		return l.die()
	}
	return api.OK
}

func (l *slowLog) rewrite(records [][]byte) api.Errno {
	if l.dead {
		return api.ErrWalDead
	}
	if len(slowStream(records)) > 504*l.many {
		return api.ErrWalFull
	}
	at, above, half := slowHolds(l.hand)
	half, at = 1-half, 1-at
	if above == 0 {
		half, at = 0, 0
	}
	g := above + 1
	for l.isStamp(half, g) {
		g++
	}
	for i, b := range records {
		if !l.put(half, g, records[:i], b) {
			return l.die()
		}
	}
	if l.disk.Sync() != nil || l.disk.Write(at, slowHead(uint64(g), byte(half))) != nil || l.disk.Sync() != nil {
		return l.die()
	}
	l.half, l.g, l.records = half, g, cloned(records)
	l.number++
	return api.OK
}

func (l *slowLog) isStamp(half, g int) bool {
	for i := range l.many {
		if bytes.HasPrefix(l.hand.Sector(2+half*l.many+i), eight(uint64(g))) {
			return true
		}
	}
	return false
}

func cloned(records [][]byte) [][]byte {
	var l [][]byte
	for _, b := range records {
		l = append(l, bytes.Clone(b))
	}
	return l
}
