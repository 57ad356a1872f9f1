package wal_test

import (
	"bytes"
	"fmt"
	"math/rand"
	"testing"

	"farebox/api"
	"farebox/block"
	"farebox/wal"
)

// pair is a log and a slow one, each on a disk of its own: whatever is done to both, both answer alike, and their disks are alike.
type pair struct {
	t       *testing.T
	hand    *block.Hand
	twin    *block.Hand
	log     *wal.Log
	slow    *slowLog
	sectors int
}

func newPair(t *testing.T, sectors int) *pair {
	return &pair{t: t, hand: block.New(sectors), twin: block.New(sectors), sectors: sectors}
}

// opened is a pair whose log is open.
func opened(t *testing.T, sectors int, records ...[]byte) *pair {
	t.Helper()
	p := newPair(t, sectors)
	p.open()
	for _, b := range records {
		p.append(b)
	}
	return p
}

func (p *pair) plant(at int, b []byte) {
	p.hand.Plant(at, b)
	p.twin.Plant(at, b)
}

func (p *pair) arm(acts int, done bool) {
	p.hand.Arm(acts, done)
	p.twin.Arm(acts, done)
}

// crash is a loss of power to both; the logs are gone with it.
func (p *pair) crash(keep []bool) {
	p.t.Helper()
	p.hand.Crash(keep)
	p.twin.Crash(keep)
	p.log, p.slow = nil, nil
	p.alike("Crash")
}

func (p *pair) open() ([][]byte, api.Errno) {
	p.t.Helper()
	slow, want, wantE := slowOpen(p.twin)
	log, got, err := wal.Open(p.hand.Disk())
	e := api.Number(err)
	if e != wantE || !sameRecords(got, want) || (log == nil) != (e != api.OK) {
		p.t.Fatalf("Open of %d sectors: %s, %d, not %s, %d", p.sectors, short(got), e, short(want), wantE)
	}
	p.log, p.slow = log, slow
	p.alike("Open")
	return got, e
}

func (p *pair) append(b []byte) api.Errno {
	p.t.Helper()
	return p.same(fmt.Sprintf("Append of %d bytes", len(b)), p.log.Append(b), p.slow.append(b))
}

func (p *pair) sync() api.Errno {
	p.t.Helper()
	return p.same("Sync", p.log.Sync(), p.slow.sync())
}

func (p *pair) rewrite(records ...[]byte) api.Errno {
	p.t.Helper()
	return p.same("Rewrite of "+short(records), p.log.Rewrite(records), p.slow.rewrite(records))
}

func (p *pair) same(what string, err error, want api.Errno) api.Errno {
	p.t.Helper()
	if e := api.Number(err); e != want || (err == nil) != (want == api.OK) {
		p.t.Fatalf("%s: %v, not %d", what, err, want)
	}
	p.alike(what)
	return want
}

// alike looks at all that can be seen of both.
func (p *pair) alike(what string) {
	p.t.Helper()
	if p.log != nil {
		room, records, number := p.slow.room(), len(p.slow.records), p.slow.number
		if p.log.Room() != room || p.log.Records() != records || p.log.Number() != number {
			p.t.Fatalf("behind %s: Room %d, Records %d, Number %d, not %d, %d, %d", what, p.log.Room(), p.log.Records(), p.log.Number(), room, records, number)
		}
	}
	if p.hand.Waiting() != p.twin.Waiting() || p.hand.Down() != p.twin.Down() {
		p.t.Fatalf("behind %s: %d writes wait, down %v, not %d, %v", what, p.hand.Waiting(), p.hand.Down(), p.twin.Waiting(), p.twin.Down())
	}
	for i := range p.sectors {
		if got, want := p.hand.Sector(i), p.twin.Sector(i); !bytes.Equal(got, want) {
			p.t.Fatalf("behind %s: sector %d: %v, not %v", what, i, trimmed(got), trimmed(want))
		}
	}
}

// want holds what a call answered against what the test says, beside what the slow log does.
func (p *pair) want(e, want api.Errno) {
	p.t.Helper()
	if e != want {
		p.t.Fatalf("%d, not %d", e, want)
	}
}

// stands holds a sector's bytes against those that it should begin with, 0 behind them.
func (p *pair) stands(at int, b ...[]byte) {
	p.t.Helper()
	if got, want := p.hand.Sector(at), sector(b...); !bytes.Equal(got, want) {
		p.t.Errorf("sector %d: %v, not %v", at, trimmed(got), trimmed(want))
	}
}

// numbers holds Room, Records and Number against what the test says.
func (p *pair) numbers(room, records, number int) {
	p.t.Helper()
	if p.log.Room() != room || p.log.Records() != records || p.log.Number() != number {
		p.t.Errorf("Room %d, Records %d, Number %d, not %d, %d, %d", p.log.Room(), p.log.Records(), p.log.Number(), room, records, number)
	}
}

// trimmed is a sector without the 0 at its end.
func trimmed(b []byte) []byte { return bytes.TrimRight(b, "\x00") }

func sameRecords(a, b [][]byte) bool {
	if len(a) != len(b) {
		return false
	}
	for i := range a {
		if !bytes.Equal(a[i], b[i]) {
			return false
		}
	}
	return true
}

func short(records [][]byte) string {
	s := fmt.Sprint(len(records), " records:")
	for _, b := range records[:min(len(records), 8)] {
		s += fmt.Sprintf(" %d(%.12x)", len(b), b)
	}
	return s
}

// sized are bytes that tell where they stand.
func sized(size int) []byte {
	b := make([]byte, size)
	for i := range b {
		b[i] = byte(i%251 + 1)
	}
	return b
}

func sizes(l ...int) [][]byte {
	var records [][]byte
	for _, n := range l {
		records = append(records, sized(n))
	}
	return records
}

// someRecord has sizes that meet the edges of sectors often enough.
func someRecord(rnd *rand.Rand) []byte {
	size := []int{0, 1, rnd.Intn(30), 460 + rnd.Intn(50), 492, 504, rnd.Intn(1100)}[rnd.Intn(7)]
	b := make([]byte, size)
	rnd.Read(b)
	return b
}

func someRecords(rnd *rand.Rand) [][]byte {
	var l [][]byte
	for range rnd.Intn(4) {
		l = append(l, someRecord(rnd))
	}
	return l
}

// someKeep says of so many writes which stay.
func someKeep(rnd *rand.Rand, many int) []bool {
	keep := make([]bool, many)
	for i := range keep {
		keep[i] = rnd.Intn(2) == 0
	}
	return keep
}
