package wal_test

import (
	"bytes"
	"math/rand"
	"testing"

	"farebox/api"
	"farebox/wal"
)

// P9.5: the halves and the heads take turns, G rises by one: byte for byte.
func TestRewriteByteForByte(t *testing.T) {
	p := opened(t, 8, []byte("first"))
	p.want(p.rewrite([]byte{9}, []byte{5, 6}), api.OK)
	p.stands(0, slowHead(1, 0))
	p.stands(1, []byte{70, 66, 87, 76, 0, 0, 0, 0, 0, 0, 0, 2, 1, 4, 115, 102, 93})
	p.stands(2, eight(1), slowFrame([]byte("first"), 0))
	p.stands(5, eight(2), []byte{0, 0, 0, 1, 0, 0, 0, 0, 44, 103, 216, 118, 9}, []byte{0, 0, 0, 2, 0, 0, 0, 1, 237, 19, 37, 198, 5, 6})
	p.numbers(1512-13-14-12, 2, 2)
	p.want(p.append([]byte("x")), api.OK)
	p.stands(5, eight(2), slowFrame([]byte{9}, 0), slowFrame([]byte{5, 6}, 1), slowFrame([]byte("x"), 2))

	p.want(p.rewrite(sized(600)), api.OK)
	p.stands(0, slowHead(3, 0))
	p.stands(1, slowHead(2, 1))
	p.stands(2, eight(3), slowFrame(sized(600), 0)[:504])
	p.stands(3, eight(3), slowFrame(sized(600), 0)[504:])
	p.numbers(1512-612-12, 1, 3)

	p.want(p.rewrite(), api.OK)
	p.stands(0, slowHead(3, 0))
	p.stands(1, slowHead(4, 1))
	p.stands(5, eight(2), slowFrame([]byte{9}, 0), slowFrame([]byte{5, 6}, 1), slowFrame([]byte("x"), 2))
	p.numbers(1500, 0, 4)
	if p.hand.Waiting() != 0 {
		t.Errorf("%d writes wait", p.hand.Waiting())
	}
	p.told()
	p.numbers(1500, 0, 1)
}

// P9.5: all records are there, and safe, without a Sync of their own.
func TestRewriteIsSafe(t *testing.T) {
	p := opened(t, 10, []byte("gone"))
	p.want(p.rewrite(sizes(1, 800, 0)...), api.OK)
	p.crash(nil)
	p.told(sizes(1, 800, 0)...)
}

// P9.5: records that fill the half, and one byte more; nothing has changed then, and the log lives.
func TestRewriteThatDoesNotFit(t *testing.T) {
	for _, sectors := range []int{4, 5, 6, 9} {
		all := 504 * ((sectors - 2) / 2)
		for _, x := range []struct {
			records [][]byte
			want    api.Errno
		}{
			{sizes(all - 12), api.OK}, {sizes(all - 11), api.ErrWalFull}, {sizes(3, all-27), api.OK}, {sizes(3, all-26), api.ErrWalFull},
			{sizes(all-23, 0), api.ErrWalFull}, {sizes(all-24, 0), api.OK}, {make([][]byte, all/504*42), api.OK}, {make([][]byte, all/504*42+1), api.ErrWalFull},
		} {
			p := opened(t, sectors, []byte("kept"))
			p.arm(1000, false)
			p.want(p.rewrite(x.records...), x.want)
			if wal.Fits(sectors, x.records) != (x.want == api.OK) {
				t.Errorf("Fits(%d, %s) is otherwise", sectors, short(x.records))
			}
			if x.want == api.OK {
				p.numbers(-12, len(x.records), 2)
				p.told(x.records...)
				continue
			}
			p.numbers(all-16-12, 1, 1)
			p.want(p.append([]byte("too")), api.OK)
			p.told([]byte("kept"), []byte("too"))
		}
	}
}

// P9.5: stamps of the half that is written that G must pass over; those of the other half, and those further on, it need not.
func TestRewritePassesStampsOver(t *testing.T) {
	for _, x := range []struct {
		stamps []uint64 // of the half 1, whose turn it is
		want   uint64
	}{
		{[]uint64{0, 0, 0, 0}, 2}, {[]uint64{1, 1, 1, 1}, 2}, {[]uint64{2, 0, 0, 0}, 3}, {[]uint64{0, 2, 0, 0}, 3}, {[]uint64{0, 0, 0, 2}, 3},
		{[]uint64{2, 2, 2, 2}, 3}, {[]uint64{5, 4, 3, 2}, 6}, {[]uint64{3, 2, 2, 4}, 5}, {[]uint64{2, 4, 5, 6}, 3}, {[]uint64{3, 3, 4, 5}, 2},
		{[]uint64{2, 3, 5, 6}, 4}, {[]uint64{1 << 63, 2 + 1<<63, 2 << 8, 2 << 56}, 2}, {[]uint64{2, 1<<64 - 1, 3, 2}, 4}, {[]uint64{1 << 48, 1 << 62, 2, 1<<63 - 1}, 3},
	} {
		p := opened(t, 10, []byte("a"))
		p.plant(3, eight(2))
		p.plant(5, eight(3))
		for i, stamp := range x.stamps {
			p.plant(6+i, eight(stamp))
		}
		p.want(p.rewrite([]byte("b")), api.OK)
		p.stands(1, slowHead(x.want, 1))
		p.stands(6, eight(x.want), slowFrame([]byte("b"), 0))
		p.want(p.append(sized(1500)), api.OK)
		p.told([]byte("b"), sized(1500))
	}
}

// P9.5: without a head that may be G begins at 1, and passes over what stands in the half 0.
func TestFirstEpoch(t *testing.T) {
	for _, x := range []struct{ first, second, want uint64 }{{0, 0, 1}, {1, 0, 2}, {0, 1, 2}, {2, 1, 3}, {1, 2, 3}, {2, 2, 1}, {1, 1, 2}, {1, 3, 2}} {
		p := newPair(t, 6)
		p.plant(2, eight(x.first))
		p.plant(3, eight(x.second))
		p.plant(4, eight(x.want))
		p.plant(5, eight(x.want))
		p.told()
		p.stands(0, slowHead(x.want, 0))
	}
}

// P9.5: an odd disk's last sector is neither's: its stamp does not count, and nothing is written there.
func TestLastSectorOfAnOddDisk(t *testing.T) {
	p := newPair(t, 7)
	p.plant(6, eight(2))
	p.told()
	p.want(p.rewrite(sized(996)), api.OK)
	p.stands(1, slowHead(2, 1))
	p.stands(6, eight(2))
	p.want(p.append(nil), api.ErrWalFull)
	p.told(sized(996))
}

// P9.5: which half, G and head it is goes by the heads that stand there when Rewrite is called.
func TestRewriteGoesByHeads(t *testing.T) {
	for at := range 2 {
		for half := range byte(2) {
			for _, g := range []uint64{2, 7, 1 << 47, 1<<48 - 9} {
				p := opened(t, 8, []byte("a"))
				p.plant(at, slowHead(g, half))
				p.plant(1-at, nil)
				p.want(p.rewrite([]byte("b")), api.OK)
				p.stands(1-at, slowHead(g+1, 1-half))
				p.want(p.append([]byte("c")), api.OK)
				p.stands(2+3*int(1-half), eight(g+1), slowFrame([]byte("b"), 0), slowFrame([]byte("c"), 1))
			}
		}
	}
	p := opened(t, 8, []byte("a"))
	p.plant(0, nil)
	p.want(p.rewrite([]byte("b")), api.OK)
	p.stands(0, slowHead(2, 0))
	p.stands(2, eight(2), slowFrame([]byte("b"), 0))
}

// P9.5: an act that is refused, at each place: the sectors of each record, one behind another, a sync, the head, a sync.
func TestRewriteAtEachAct(t *testing.T) {
	for _, x := range []struct {
		sizes []int
		acts  int
	}{{nil, 3}, {[]int{0}, 4}, {[]int{1, 600}, 6}, {[]int{1, 2, 3}, 6}, {[]int{480, 0, 0}, 6}, {[]int{600, 600, 600}, 9}, {[]int{1500}, 6}} {
		build := func() *pair {
			p := opened(t, 12, []byte("a"), sized(700))
			p.sync()
			p.append([]byte("b"))
			return p
		}
		acts := atEachAct(t, build, func(p *pair) api.Errno {
			room := p.log.Room()
			e := p.rewrite(sizes(x.sizes...)...)
			if e == api.ErrDown {
				p.numbers(room, 3, 1)
			} else {
				p.numbers(p.slow.room(), len(x.sizes), 2)
			}
			return e
		})
		if acts != x.acts {
			t.Errorf("%v: %d acts, not %d", x.sizes, acts, x.acts)
		}
	}
}

// P9.5: each act alone: what it wrote, and that nothing else has changed by it.
func TestRewriteActByAct(t *testing.T) {
	records := sizes(1, 600)
	stream := slowStream(records)
	want := []struct {
		at      int // the sector; -1: a sync
		content []byte
	}{
		{7, sector(eight(2), stream[:13])}, {7, sector(eight(2), stream[:504])}, {8, sector(eight(2), stream[504:])}, {-1, nil}, {1, slowHead(2, 1)}, {-1, nil},
	}
	image := func(acts int) (sectors [][]byte, waiting int) {
		p := opened(t, 12, []byte("a"))
		p.want(p.sync(), api.OK)
		p.arm(acts, false)
		p.rewrite(records...)
		for i := range 12 {
			sectors = append(sectors, p.hand.Sector(i))
		}
		return sectors, p.hand.Waiting()
	}
	before, waited := image(0)
	for acts, x := range want {
		after, waiting := image(acts + 1)
		if x.at < 0 && waiting != 0 || x.at >= 0 && waiting != waited+1 {
			t.Errorf("act %d: %d writes wait, %d ahead of it", acts, waiting, waited)
		}
		for i := range after {
			content := before[i]
			if i == x.at {
				content = x.content
			}
			if !bytes.Equal(after[i], content) {
				t.Errorf("act %d: sector %d: %v, not %v", acts, i, after[i], content)
			}
		}
		before, waited = after, waiting
	}
}

// P9.6: Number counts what was written anew, not what was refused.
func TestNumber(t *testing.T) {
	p := opened(t, 6)
	for i := range 20 {
		p.numbers(996, 0, 1+i)
		p.want(p.rewrite(sized(997)), api.ErrWalFull)
		p.want(p.append(sized(3)), api.OK)
		p.want(p.sync(), api.OK)
		p.numbers(996-15, 1, 1+i)
		p.want(p.rewrite(), api.OK)
	}
	p.told()
	p.numbers(996, 0, 1)
}

// Two logs on one disk: the later one's heads are those by which the earlier one goes on.
func TestTwoLogsOnOneDisk(t *testing.T) {
	rnd := rand.New(rand.NewSource(96))
	for range 40 {
		p := opened(t, 8+rnd.Intn(4), []byte("a"))
		other := &pair{t: t, hand: p.hand, twin: p.twin, sectors: p.sectors}
		other.open()
		for range 12 {
			l := []*pair{p, other}[rnd.Intn(2)]
			if rnd.Intn(3) > 0 {
				l.append(someRecord(rnd))
			} else {
				l.rewrite(someRecords(rnd)...)
			}
		}
		p.rewrite([]byte("last"))
		other.told([]byte("last"))
	}
}
