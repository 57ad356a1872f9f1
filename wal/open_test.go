package wal_test

import (
	"bytes"
	"fmt"
	"math"
	"math/rand"
	"testing"

	"farebox/api"
	"farebox/block"
	"farebox/wal"
)

// wantRefused holds that Open answers an error and nothing beside it.
func wantRefused(t *testing.T, d *block.Disk, want api.Errno) {
	t.Helper()
	if l, some, err := wal.Open(d); l != nil || len(some) != 0 || api.Number(err) != want {
		t.Errorf("Open: %v, %d records, %v, not %d", l != nil, len(some), err, want)
	}
}

// told holds what Open tells of a pair's disks against what the test says.
func (p *pair) told(want ...[]byte) {
	p.t.Helper()
	got, e := p.open()
	if e != api.OK || !sameRecords(got, want) {
		p.t.Fatalf("Open: %s, %d, not %s", short(got), e, short(want))
	}
}

// The chapter's examples, call by call.
func TestExamples(t *testing.T) {
	h := block.New(10)
	open := func(want ...string) *wal.Log {
		t.Helper()
		l, some, err := wal.Open(h.Disk())
		if l == nil || err != nil || fmt.Sprintf("%q", some) != fmt.Sprintf("%q", want) {
			t.Fatalf("Open: %q, %v", some, err)
		}
		return l
	}
	l := open()
	if l.Records() != 0 || l.Room() != 2004 || l.Number() != 1 {
		t.Errorf("Records %d, Room %d, Number %d", l.Records(), l.Room(), l.Number())
	}
	if err := l.Append([]byte{7, 8}); err != nil || l.Room() != 1990 {
		t.Errorf("Append: %v, Room %d", err, l.Room())
	}
	if err := l.Append(make([]byte, 2005)); api.Number(err) != api.ErrWalFull {
		t.Errorf("Append of 2005 bytes: %v", err)
	}
	if err := l.Sync(); err != nil {
		t.Errorf("Sync: %v", err)
	}
	h.Crash(nil)
	l = open("\x07\x08")
	if err := l.Rewrite([][]byte{{9}, {5, 6}}); err != nil || l.Records() != 2 {
		t.Errorf("Rewrite: %v, %d", err, l.Records())
	}
	open("\x09", "\x05\x06")
	wantRefused(t, block.New(3).Disk(), api.ErrArg)
}

// P9.2: a disk of too few or of too many sectors is refused, also one that is down, and nothing is done to it.
func TestOpenOfNoLog(t *testing.T) {
	for _, sectors := range []int{math.MinInt, -1, 0, 1, 2, 3, 1<<20 + 1, 1 << 21, math.MaxInt} {
		for _, down := range []bool{false, true} {
			h := block.New(sectors)
			h.Plant(0, slowHead(1<<48, 0))
			if down {
				h.Arm(0, false)
				h.Disk().Sync()
			}
			wantRefused(t, h.Disk(), api.ErrArg)
			if h.Waiting() != 0 || sectors > 2 && (!bytes.Equal(h.Sector(0), slowHead(1<<48, 0)) || !bytes.Equal(h.Sector(2), sector())) {
				t.Errorf("%d sectors: something was written", sectors)
			}
		}
	}
}

// P9.2: a disk that is down is refused, whatever stands on it.
func TestOpenOfADiskThatIsDown(t *testing.T) {
	for _, g := range []uint64{0, 1, 1 << 47, 1<<47 + 1, 1 << 48} {
		p := newPair(t, 8)
		p.plant(0, slowHead(g, 0))
		p.arm(0, false)
		p.hand.Disk().Sync()
		p.twin.Disk().Sync()
		_, e := p.open()
		p.want(e, api.ErrDown)
		wantRefused(t, p.hand.Disk(), api.ErrDown)
	}
}

// P9.2: the least disk and the greatest one hold a log, and an odd number of sectors too.
func TestOpenOfDisks(t *testing.T) {
	for _, sectors := range []int{4, 5, 6, 7, 10, 33} {
		p := newPair(t, sectors)
		p.told()
		p.numbers(wal.Room(sectors), 0, 1)
		p.want(p.append(sized(wal.Room(sectors))), api.OK)
		p.want(p.sync(), api.OK)
		p.numbers(-12, 1, 1)
		p.told(sized(wal.Room(sectors)))
		p.numbers(-12, 1, 1)
	}
}

// P9.2, P9.3, P9.5: the greatest disk: the halves stand where they should, and the last sector of each is looked at.
func TestOpenOfTheGreatestDisk(t *testing.T) {
	const many = 1<<19 - 1
	h := block.New(1 << 20)
	h.Plant(1+many, eight(1))
	l, some, err := wal.Open(h.Disk())
	if err != nil || len(some) != 0 || l.Room() != 504*many-12 {
		t.Fatalf("Open: %v, %d records", err, len(some))
	}
	if !bytes.Equal(h.Sector(0), slowHead(2, 0)) {
		t.Errorf("the first head: %v", h.Sector(0)[:20])
	}
	h.Plant(2, eight(3))
	h.Plant(2+many, eight(3))
	h.Plant(1+2*many, eight(4))
	if err := l.Rewrite([][]byte{{7}}); err != nil || !bytes.Equal(h.Sector(1), slowHead(5, 1)) {
		t.Errorf("Rewrite: %v, the second head: %v", err, h.Sector(1)[:20])
	}
	if want := sector(eight(5), slowFrame([]byte{7}, 0)); !bytes.Equal(h.Sector(2+many), want) {
		t.Errorf("the second half: %v", h.Sector(2 + many)[:30])
	}
}

// P9.2: a part of a disk is a disk; nothing beside it is touched.
func TestOpenOfAPart(t *testing.T) {
	h, twin := block.New(20), block.New(6)
	for i := range 20 {
		h.Plant(i, bytes.Repeat([]byte{9}, 512))
	}
	for i := range 6 {
		h.Plant(7+i, nil)
	}
	l, _, err := wal.Open(h.Disk().Part(7, 6))
	m, _, _ := wal.Open(twin.Disk())
	for _, log := range []*wal.Log{l, m} {
		log.Append(sized(700))
		log.Rewrite(sizes(3, 600))
		log.Append(sized(5))
	}
	if err != nil || l.Room() != m.Room() || l.Records() != 3 {
		t.Errorf("%v, Room %d, not %d", err, l.Room(), m.Room())
	}
	for i := range 20 {
		want := bytes.Repeat([]byte{9}, 512)
		if i >= 7 && i < 13 {
			want = twin.Sector(i - 7)
		}
		if !bytes.Equal(h.Sector(i), want) {
			t.Errorf("sector %d: %v", i, h.Sector(i))
		}
	}
	for _, many := range []int{-1, 0, 1, 2, 3} {
		wantRefused(t, h.Disk().Part(7, many), api.ErrArg)
	}
	wantRefused(t, h.Disk().Part(17, 6), api.ErrArg)
}

// twoHalves is a disk without heads, whose half 0 has the record a for the stamp 5, the half 1 the record b for 6.
func twoHalves(t *testing.T) *pair {
	p := newPair(t, 10)
	p.plant(2, sector(eight(5), slowFrame([]byte("a"), 0)))
	p.plant(6, sector(eight(6), slowFrame([]byte("b"), 0)))
	return p
}

// P9.2, P9.9: without a head that may be there are no records, whatever stands there; the half 0 and the head 0 come first.
func TestOpenWithoutHeads(t *testing.T) {
	p := twoHalves(t)
	p.told()
	p.stands(0, slowHead(1, 0))
	p.stands(1)
	for stamp := range uint64(3) {
		p := newPair(t, 10)
		for i := 2; i < 10; i++ {
			p.plant(i, sector(eight(stamp), slowFrame([]byte("c"), 0)))
		}
		p.told()
		p.numbers(2004, 0, 1)
	}
}

// P9.2: either head alone, of either half.
func TestOpenWithOneHead(t *testing.T) {
	for at := range 2 {
		p := twoHalves(t)
		p.plant(at, slowHead(5, 0))
		p.told([]byte("a"))
		p.stands(at, slowHead(5, 0))
		p.stands(1-at, slowHead(7, 1))

		p = twoHalves(t)
		p.plant(at, slowHead(6, 1))
		p.told([]byte("b"))
		p.stands(at, slowHead(6, 1))
		p.stands(1-at, slowHead(7, 0))

		p = twoHalves(t)
		p.plant(at, slowHead(4, 0))
		p.told()
		p.stands(1-at, slowHead(5, 1))
	}
}

// P9.2: of two heads the greater G holds; of one G the sector 0's.
func TestOpenWithTwoHeads(t *testing.T) {
	a, b := slowHead(5, 0), slowHead(6, 1)
	p := twoHalves(t)
	p.plant(0, a)
	p.plant(1, b)
	p.told([]byte("b"))
	p.stands(0, slowHead(7, 0))
	p.stands(1, b)

	p = twoHalves(t)
	p.plant(0, b)
	p.plant(1, a)
	p.told([]byte("b"))
	p.stands(0, b)
	p.stands(1, slowHead(7, 0))

	p = twoHalves(t)
	p.plant(0, a)
	p.plant(1, slowHead(5, 1))
	p.told([]byte("a"))
	p.stands(1, slowHead(7, 1))

	p = twoHalves(t)
	p.plant(0, slowHead(6, 1))
	p.plant(1, slowHead(6, 0))
	p.told([]byte("b"))
	p.stands(1, slowHead(7, 0))
}

// P9.2: a greater G of which nothing stands in its half is the one that holds, even so; also of the same half.
func TestOpenWithAnEmptyHead(t *testing.T) {
	for _, half := range []byte{0, 1} {
		for at := range 2 {
			p := twoHalves(t)
			p.plant(at, slowHead(5, 0))
			p.plant(1-at, slowHead(900, half))
			p.told()
			p.stands(at, slowHead(901, 1-half))
		}
	}
}

// P9.2: a head of which one byte is another one, at each place, may not be; the other one holds then, or none.
func TestOpenWithSpoiltHeads(t *testing.T) {
	rnd := rand.New(rand.NewSource(92))
	for at := range 2 {
		for place := range 512 {
			for _, by := range []byte{1, 128, byte(1 + rnd.Intn(255))} {
				b := slowHead(6, 1)
				b[place] ^= by
				p := twoHalves(t)
				p.plant(at, b)
				p.told()
				p.stands(0, slowHead(1, 0))

				p = twoHalves(t)
				p.plant(at, b)
				p.plant(1-at, slowHead(5, 0))
				p.told([]byte("a"))
				p.stands(at, slowHead(7, 1))
			}
		}
	}
}

// P9.2: heads that are whole, and say what may not be.
func TestOpenWithHeadsThatMayNotBe(t *testing.T) {
	wrong := [][]byte{slowHead(0, 0), slowHead(0, 1), slowHead(1<<48+1, 0), slowHead(1<<48+1, 1), slowHead(1<<49, 0), slowHead(1<<63-1, 0), slowHead(1<<63, 0), slowHead(1<<63+6, 1), slowHead(1<<64-1, 1)}
	for half := 2; half < 256; half++ {
		wrong = append(wrong, slowHead(6, byte(half)))
	}
	for _, b := range wrong {
		for at := range 2 {
			p := twoHalves(t)
			p.plant(at, b)
			p.told()
			p.stands(0, slowHead(1, 0))

			p = twoHalves(t)
			p.plant(at, b)
			p.plant(1-at, slowHead(5, 0))
			p.told([]byte("a"))
			p.stands(at, slowHead(7, 1))
		}
	}
}

// P9.2: a head stands at the sector's beginning, in one sum's form, with its own mark.
func TestOpenWithHeadsOfOtherForms(t *testing.T) {
	right := slowHead(6, 1)
	other := bytes.Clone(right)
	other[13], other[14], other[15], other[16] = right[16], right[15], right[14], right[13]
	mark := bytes.Clone(right[:13])
	mark[3]++
	sum := slowSum(mark)
	mark = append(mark, byte(sum), byte(sum>>8), byte(sum>>16), byte(sum>>24))
	longer := append(bytes.Clone(right[:13]), 0)
	sum = slowSum(longer)
	longer = append(longer, byte(sum), byte(sum>>8), byte(sum>>16), byte(sum>>24))
	for _, b := range [][]byte{other, mark, longer, append([]byte{0}, right...), right[1:], sector(eight(6), right), nil} {
		p := twoHalves(t)
		p.plant(0, b)
		p.told()
		p.stands(0, slowHead(1, 0))
	}
}

// P9.2: a head stands in one of the first two sectors, nowhere else.
func TestOpenWithHeadsElsewhere(t *testing.T) {
	for at := 2; at < 11; at++ {
		p := newPair(t, 11)
		p.plant(at, slowHead(9, 1))
		p.told()
		p.stands(0, slowHead(1, 0))
		p.plant(at, slowHead(9, 0))
		p.want(p.rewrite([]byte("a")), api.OK)
		p.stands(1, slowHead(2, 1))
	}
}

// P9.2: G of MaxEpoch / 2 is taken, one above it is refused, up to MaxEpoch; nothing is done to the disk then.
func TestOpenOfGreatEpochs(t *testing.T) {
	for at := range 2 {
		for _, g := range []uint64{1<<47 - 1, 1 << 47} {
			p := newPair(t, 10)
			p.plant(at, slowHead(g, 1))
			p.plant(6, sector(eight(g), slowFrame([]byte("c"), 0)))
			p.told([]byte("c"))
			p.stands(1-at, slowHead(g+1, 0))
		}
		for _, g := range []uint64{1<<47 + 1, 1<<47 + 2, 1<<48 - 1, 1 << 48} {
			for _, other := range [][]byte{nil, slowHead(5, 0), slowHead(g, 1), slowHead(g-1, 0), slowHead(1<<48+1, 0)} {
				p := twoHalves(t)
				p.plant(at, slowHead(g, 1))
				p.plant(1-at, other)
				p.arm(0, false)
				_, e := p.open()
				p.want(e, api.ErrWal)
				p.stands(at, slowHead(g, 1))
				p.stands(1-at, other)
			}
		}
	}
}

// P9.2, P9.5: a log that was opened with G of MaxEpoch / 2 goes on above that; but it is not opened again.
func TestOpenBehindTheLastEpoch(t *testing.T) {
	p := newPair(t, 10)
	p.plant(1, slowHead(1<<47, 0))
	p.told()
	p.want(p.append([]byte("kept")), api.OK)
	p.want(p.rewrite([]byte("kept")), api.OK)
	p.stands(1, slowHead(1<<47+2, 0))
	_, e := p.open()
	p.want(e, api.ErrWal)
}

// fiveSectors is a log on a disk of 12 sectors, whose half 0 has records for the stamp 3: one that ends in the first sector, one over the first four, one that ends in the last.
func fiveSectors(t *testing.T) (*pair, [][]byte) {
	p := newPair(t, 12)
	records := sizes(300, 1600, 200)
	stream := slowStream(records)
	for i := range 5 {
		p.plant(2+i, sector(eight(3), stream[504*i:min(504*i+504, len(stream))]))
	}
	p.plant(0, slowHead(3, 0))
	return p, records
}

// P9.2: a stamp that is not G ends the stream there, at the first, a middle and the last sector.
func TestOpenWithOtherStamps(t *testing.T) {
	p, records := fiveSectors(t)
	p.told(records...)
	for i, many := range []int{0, 1, 1, 1, 2} {
		for _, stamp := range []uint64{0, 2, 4, 259, 3 << 8, 3 << 56, 1<<63 + 3, 1<<64 - 1} {
			p, records := fiveSectors(t)
			b := p.hand.Sector(2 + i)
			p.plant(2+i, sector(eight(stamp), b[8:]))
			p.told(records[:many]...)
		}
	}
}

// P9.2: behind a sector with another stamp nothing is looked at, even if the next frame would stand there.
func TestOpenBehindAnotherStamp(t *testing.T) {
	for _, stamp := range []uint64{0, 2, 4} {
		p := newPair(t, 8)
		p.plant(0, slowHead(3, 0))
		p.plant(2, sector(eight(3), slowFrame(sized(492), 0)))
		p.plant(3, sector(eight(stamp), slowFrame([]byte("b"), 1)))
		p.plant(4, sector(eight(3), slowFrame([]byte("c"), 1)))
		p.told(sized(492))
	}
}

// P9.2: a frame that ends with the half is whole; one that would end behind it is none, even if its bytes stand there.
func TestOpenOfAFrameThatGoesOn(t *testing.T) {
	p := newPair(t, 6)
	stream := slowStream(sizes(0, 1008-24))
	p.plant(0, slowHead(3, 0))
	p.plant(2, sector(eight(3), stream[:504]))
	p.plant(3, sector(eight(3), stream[504:]))
	p.told(sizes(0, 1008-24)...)

	p = newPair(t, 6)
	stream = slowStream(sizes(0, 1008-23))
	p.plant(0, slowHead(3, 0))
	p.plant(2, sector(eight(3), stream[:504]))
	p.plant(3, sector(eight(3), stream[504:1008]))
	p.plant(4, sector(eight(3), stream[1008:]))
	p.told(sized(0))
}

// oneSector is a disk of 4 sectors whose half 0 has this stream.
func oneSector(t *testing.T, stream ...[]byte) *pair {
	p := newPair(t, 4)
	p.plant(0, slowHead(3, 0))
	p.plant(2, sector(append([][]byte{eight(3)}, stream...)...))
	return p
}

// P9.2: a frame whose length, number of records ahead or sum is wrong ends the records, whatever follows.
func TestOpenOfWrongFrames(t *testing.T) {
	a, b, c := slowFrame([]byte("a"), 0), slowFrame([]byte("bcd"), 1), slowFrame(nil, 2)
	oneSector(t, a, b, c).told([]byte("a"), []byte("bcd"), nil)
	for place := range b {
		for bit := range 8 {
			other := bytes.Clone(b)
			other[place] ^= 1 << bit
			oneSector(t, a, other, c).told([]byte("a"))
			oneSector(t, slowFrame([]byte("a"), 0), slowFrame([]byte("bcd"), 1), other).told([]byte("a"), []byte("bcd"))
		}
	}
	for _, ahead := range []int{0, 2, 3, 257, 1 << 24, 1<<32 - 1} {
		oneSector(t, a, slowFrame([]byte("bcd"), ahead), c).told([]byte("a"))
	}
	for _, ahead := range []int{1, 2, 1 << 24, 1<<32 - 1} {
		oneSector(t, slowFrame([]byte("a"), ahead), b, c).told()
	}
}

// withLength is a frame that says another length than its record has, with the sum that would be right for that.
func withLength(length int, b []byte) []byte {
	first := append(four(length), four(0)...)
	return append(append(bytes.Clone(first), four(int(slowSum(append(bytes.Clone(first), b...))))...), b...)
}

// P9.2: lengths beyond the half, up to the greatest, end the records, whatever their sums are; the last byte of the half is in it.
func TestOpenOfWrongLengths(t *testing.T) {
	b := sized(492)
	oneSector(t, withLength(492, b)).told(b)
	for _, length := range []int{0, 1, 491, 493, 494, 504, 505, 1 << 16, 1<<31 - 1, 1 << 31, 1<<32 - 12, 1<<32 - 1} {
		oneSector(t, withLength(length, b)).told()
	}
	for more := 1; more < 20; more++ {
		longer := append(bytes.Clone(b), make([]byte, more)...)
		oneSector(t, withLength(492+more, longer)[:504]).told()
	}
	oneSector(t, withLength(480, b[:480])).told(b[:480])
	oneSector(t, withLength(480, b[:480]), withLength(0, nil)).told(b[:480])
	oneSector(t, withLength(480, b[:480]), slowFrame(nil, 1)).told(b[:480], nil)
}

// P9.2: bytes that are all 0, or all the same, are no frame, for any stamp.
func TestOpenOfBareSectors(t *testing.T) {
	for c := range 256 {
		oneSector(t, bytes.Repeat([]byte{byte(c)}, 504)).told()
	}
}

// P9.2: a frame begins where 12 bytes are left, and not where there are fewer, even if one stands there.
func TestOpenBetweenSectors(t *testing.T) {
	for left := range 25 {
		ahead := sized(492 - left)
		for gap := range 25 {
			p := newPair(t, 6)
			p.plant(0, slowHead(3, 0))
			stream := append(slowFrame(ahead, 0), make([]byte, gap)...)
			stream = sector(stream, slowFrame([]byte("next"), 1))
			p.plant(2, sector(eight(3), stream[:504]))
			p.plant(3, sector(eight(3), stream[504:]))
			if left >= 12 && gap == 0 || left < 12 && gap == left {
				p.told(ahead, []byte("next"))
			} else {
				p.told(ahead)
			}
		}
	}
}

// P9.2: bytes in a gap, or behind the last record, are no matter; they are not written again.
func TestOpenWithBytesInGaps(t *testing.T) {
	p := newPair(t, 6)
	p.plant(0, slowHead(3, 0))
	p.plant(2, sector(eight(3), slowFrame(sized(485), 0), []byte{1, 2, 3, 4, 5, 6, 7}))
	p.plant(3, sector(eight(3), slowFrame([]byte("x"), 1), []byte{9, 9, 9}))
	p.told(sized(485), []byte("x"))
	p.stands(4, eight(4), slowFrame(sized(485), 0))
	p.stands(5, eight(4), slowFrame([]byte("x"), 1))
}

// P9.2: an act that is refused, at each place, either way; the answer is nothing but ErrDown, and what was there is found by the next one.
func TestOpenAtEachAct(t *testing.T) {
	for sectors, want := range map[int]int{4: 3, 6: 3, 12: 3} {
		if acts := atEachAct(t, func() *pair { return newPair(t, sectors) }, (*pair).opens); acts != want {
			t.Errorf("Open of nothing: %d acts, not %d", acts, want)
		}
	}
	build := func() *pair {
		p, _ := fiveSectors(t)
		return p
	}
	if acts := atEachAct(t, build, (*pair).opens); acts != 10 {
		t.Errorf("Open: %d acts, not 10", acts)
	}
}

func (p *pair) opens() api.Errno {
	p.t.Helper()
	_, e := p.open()
	return e
}

// P9.9: what a log tells with power, over many Opens and without any Sync of its own.
func TestOpenAgainAndAgain(t *testing.T) {
	rnd := rand.New(rand.NewSource(93))
	for range 60 {
		p := opened(t, 4+rnd.Intn(12))
		for range 12 {
			want := cloned(p.slow.records)
			for range rnd.Intn(3) {
				if b := someRecord(rnd); p.append(b) == api.OK {
					want = append(want, b)
				}
			}
			if l := someRecords(rnd); rnd.Intn(4) == 0 && p.rewrite(l...) == api.OK {
				want = cloned(l)
			}
			p.told(want...)
			p.numbers(p.slow.room(), len(want), 1)
		}
	}
}

// P9.9: a disk full of the remains of another log, whose heads are gone, is a new one.
func TestOpenOfRemains(t *testing.T) {
	rnd := rand.New(rand.NewSource(94))
	for range 60 {
		p := opened(t, 4+rnd.Intn(8))
		for range 8 {
			p.append(someRecord(rnd))
			p.rewrite(someRecords(rnd)...)
		}
		p.plant(0, nil)
		p.plant(1, nil)
		p.told()
		p.want(p.append([]byte("new")), api.OK)
		p.told([]byte("new"))
	}
}

// FuzzOpened: whatever stands on a disk, Open, and what is done behind it, is as the chapter says (P9.2, W1).
func FuzzOpened(f *testing.F) {
	stream := slowStream([][]byte{[]byte("a"), sized(600), nil})
	disk := func(sectors ...[]byte) []byte { return bytes.Join(sectors, nil) }
	f.Add(uint8(4), []byte{})
	f.Add(uint8(6), disk(slowHead(3, 0), sector(), sector(eight(3), stream[:504]), sector(eight(3), stream[504:])))
	f.Add(uint8(7), disk(slowHead(3, 0), slowHead(4, 1), sector(eight(3), stream[:504]), sector(eight(5)), sector(eight(4), stream[:504]), sector(eight(4), stream[504:])))
	f.Add(uint8(4), disk(slowHead(1<<48, 0), slowHead(1<<47, 1)))
	f.Fuzz(func(t *testing.T, sectors uint8, b []byte) {
		p := newPair(t, int(sectors%16))
		for i := 0; 512*i < len(b) && i < p.sectors; i++ {
			p.plant(i, b[512*i:min(512*i+512, len(b))])
		}
		if _, e := p.open(); e != api.OK {
			return
		}
		records := cloned(p.slow.records)
		p.append([]byte("more"))
		p.rewrite(records...)
		if got, e := p.open(); e == api.OK && !sameRecords(got, records) {
			t.Errorf("Open: %s, not %s", short(got), short(records))
		}
	})
}
