package wal_test

import (
	"bytes"
	"fmt"
	"math/rand"
	"testing"

	"farebox/api"
)

// P9.3: what stands on the disk, number by number, behind the chapter's first two calls.
func TestAppendByteForByte(t *testing.T) {
	p := opened(t, 10)
	p.want(p.append([]byte{7, 8}), api.OK)
	p.stands(0, []byte{70, 66, 87, 76, 0, 0, 0, 0, 0, 0, 0, 1, 0, 158, 88, 234, 155})
	p.stands(1)
	p.stands(2, []byte{0, 0, 0, 0, 0, 0, 0, 1}, []byte{0, 0, 0, 2, 0, 0, 0, 0, 195, 111, 56, 113, 7, 8})
	for i := 3; i < 10; i++ {
		p.stands(i)
	}
	p.want(p.append(nil), api.OK)
	p.want(p.append([]byte("z")), api.OK)
	p.stands(2, eight(1), slowFrame([]byte{7, 8}, 0), slowFrame(nil, 1), slowFrame([]byte("z"), 2))
	p.numbers(2004-14-12-13, 3, 1)
}

// P9.3: a frame over one, two and more sectors: each of them is written once, and no other; those ahead of it are not touched.
func TestAppendOverSectors(t *testing.T) {
	p := opened(t, 12, sized(100))
	p.want(p.sync(), api.OK)
	frames := slowFrame(sized(100), 0)
	for i, size := range []int{0, 380 - 12, 3, 1700} {
		before := [5][]byte{}
		for at := range before {
			before[at] = p.hand.Sector(2 + at)
		}
		from := len(frames) / 504
		p.want(p.append(sized(size)), api.OK)
		frames = append(frames, slowFrame(sized(size), i+1)...)
		to := (len(frames) - 1) / 504
		if p.hand.Waiting() != to-from+1 {
			t.Errorf("%d bytes: %d writes, not %d", size, p.hand.Waiting(), to-from+1)
		}
		for at := range before {
			if at < from || at > to {
				p.stands(2+at, before[at])
			} else {
				p.stands(2+at, eight(1), frames[504*at:min(504*at+504, len(frames))])
			}
		}
		p.want(p.sync(), api.OK)
	}
}

// P9.3: sizes of a first record that meet every edge, and then of a second one: the gap between them is 0, and so is all behind.
func TestAppendAtEdges(t *testing.T) {
	for left := range 30 {
		for _, size := range []int{0, 1, 2, 11, 12, 13, 479, 480, 481, 491, 492, 493, 504, 996, 997} {
			p := opened(t, 10, sized(492-left))
			p.want(p.append(sized(size)), api.OK)
			at := 504 - left
			if left < 12 {
				at = 504
				p.stands(2, eight(1), slowFrame(sized(492-left), 0))
			}
			if room := 2016 - (at + 12 + size) - 12; (at+12+size)%504 <= 492 {
				p.numbers(room, 2, 1)
			} else {
				p.numbers(room-504+(at+12+size)%504, 2, 1)
			}
			p.told(sized(492-left), sized(size))
		}
	}
}

// P9.3: what stands on a disk from before is not in a sector that is written.
func TestAppendOnUsedSectors(t *testing.T) {
	p := newPair(t, 8)
	for i := 2; i < 8; i++ {
		p.plant(i, bytes.Repeat([]byte{200}, 512))
	}
	p.told()
	p.want(p.append([]byte("a")), api.OK)
	p.stands(2, eight(1), slowFrame([]byte("a"), 0))
	p.stands(3, bytes.Repeat([]byte{200}, 512))
	p.want(p.append(sized(600)), api.OK)
	p.stands(3, eight(1), slowFrame(sized(600), 1)[504-13:])
	p.told([]byte("a"), sized(600))
}

// P9.3: the log goes by what it wrote itself: what is put into its sector from outside is not written again.
func TestAppendBehindAPlant(t *testing.T) {
	p := opened(t, 8, []byte("a"))
	p.plant(2, bytes.Repeat([]byte{200}, 512))
	p.want(p.append([]byte("b")), api.OK)
	p.stands(2, eight(1), slowFrame([]byte("a"), 0), slowFrame([]byte("b"), 1))
	p.told([]byte("a"), []byte("b"))
}

// P9.3, P9.6: b of Room() bytes is taken, one more is not, and nothing has changed then; wherever the next frame begins.
func TestAppendOfAllRoom(t *testing.T) {
	for _, sectors := range []int{4, 5, 6, 9} {
		for ahead := range 1100 {
			p := opened(t, sectors)
			if p.append(sized(ahead)) != api.OK {
				p.numbers(504*((sectors-2)/2)-12, 0, 1)
				continue
			}
			room := p.log.Room()
			waiting := p.hand.Waiting()
			for _, more := range []int{1, 2, 12, 13, 505} {
				p.want(p.append(sized(max(0, room+more))), api.ErrWalFull)
			}
			p.numbers(room, 1, 1)
			if p.hand.Waiting() != waiting {
				t.Fatalf("a record that does not fit was written")
			}
			if room < 0 {
				p.numbers(-12, 1, 1)
				p.want(p.append(nil), api.ErrWalFull)
				continue
			}
			p.want(p.append(sized(room)), api.OK)
			p.numbers(-12, 2, 1)
			p.want(p.append(nil), api.ErrWalFull)
		}
	}
}

// P9.3: records of 0 bytes, until there is no room.
func TestAppendOfNothing(t *testing.T) {
	p := opened(t, 6)
	for i := range 84 {
		p.numbers(1008-12*i-12, i, 1)
		p.want(p.append([][]byte{nil, {}}[i%2]), api.OK)
	}
	p.numbers(-12, 84, 1)
	p.want(p.append(nil), api.ErrWalFull)
	p.told(make([][]byte, 84)...)
}

// P9.3: ErrWalFull comes ahead of a disk that is down, and does not kill; ErrDown does.
func TestAppendToADiskThatIsDown(t *testing.T) {
	p := opened(t, 6, sized(700))
	p.arm(0, false)
	p.hand.Disk().Sync()
	p.twin.Disk().Sync()
	p.want(p.append(sized(400)), api.ErrWalFull)
	p.want(p.rewrite(sized(2000)), api.ErrWalFull)
	p.want(p.append([]byte("x")), api.ErrDown)
	p.isDead()
}

// P9.3: a refused write, at each of the sectors: the log is dead, and its numbers are as ahead of that.
func TestAppendAtEachAct(t *testing.T) {
	for _, x := range []struct{ ahead, size, acts int }{{0, 0, 1}, {0, 480, 1}, {0, 481, 2}, {480, 0, 1}, {481, 0, 1}, {480, 1, 2}, {100, 1500, 4}, {492, 1500, 3}, {492, 1501, 4}} {
		build := func() *pair { return opened(t, 12, sized(x.ahead)) }
		acts := atEachAct(t, build, func(p *pair) api.Errno {
			room := p.log.Room()
			e := p.append(sized(x.size))
			if e == api.ErrDown {
				p.numbers(room, 1, 1)
			}
			return e
		})
		if acts != x.acts {
			t.Errorf("%v: %d acts", x, acts)
		}
	}
}

// P9.4: Sync makes all safe that was written; it is one act, and changes no number.
func TestSync(t *testing.T) {
	p := opened(t, 8, []byte("a"), sized(700))
	if p.hand.Waiting() != 3 {
		t.Errorf("%d writes wait", p.hand.Waiting())
	}
	p.want(p.sync(), api.OK)
	if p.hand.Waiting() != 0 {
		t.Errorf("%d writes wait behind Sync", p.hand.Waiting())
	}
	p.numbers(1500-13-712, 2, 1)
	p.want(p.append([]byte("lost")), api.OK)
	p.crash(nil)
	p.told([]byte("a"), sized(700))
	if acts := atEachAct(t, func() *pair { return opened(t, 8, []byte("a"), sized(700)) }, (*pair).sync); acts != 1 {
		t.Errorf("Sync: %d acts", acts)
	}
	if acts := atEachAct(t, func() *pair { return opened(t, 8) }, (*pair).sync); acts != 1 {
		t.Errorf("Sync of nothing: %d acts", acts)
	}
}

// P9.3, P9.4, P9.5: a log that failed stays dead, also on a disk that is up again; another one goes on.
func TestDeadForEver(t *testing.T) {
	for _, fail := range []func(*pair) api.Errno{
		func(p *pair) api.Errno { return p.append([]byte("b")) },
		(*pair).sync,
		func(p *pair) api.Errno { return p.rewrite([]byte("c")) },
	} {
		p := opened(t, 8, []byte("a"))
		p.want(p.sync(), api.OK)
		p.arm(0, false)
		p.want(fail(p), api.ErrDown)
		p.isDead()
		p.numbers(1500-13, 1, 1)
		p.told([]byte("a"))
		p.want(p.append([]byte("d")), api.OK)
	}
}

// P9.3 to P9.6: any calls, in any order, against the slow log.
func TestSomeCalls(t *testing.T) {
	rnd := rand.New(rand.NewSource(95))
	told := map[api.Errno]int{}
	for range 300 {
		p := opened(t, 4+rnd.Intn(14))
		for range 30 {
			switch n := rnd.Intn(12); {
			case n < 7:
				told[p.append(someRecord(rnd))]++
			case n < 9:
				told[p.sync()]++
			case n < 11:
				told[p.rewrite(someRecords(rnd)...)]++
			default:
				p.opens()
			}
		}
	}
	if told[api.OK] < 1000 || told[api.ErrWalFull] < 500 {
		t.Errorf("too few of some kind: %v", fmt.Sprint(told))
	}
}

// P9.3, P9.6: a log of many sectors, up to its end: records that are small, some that are not, and one far longer than any.
func TestManySectors(t *testing.T) {
	rnd := rand.New(rand.NewSource(102))
	p := opened(t, 90)
	var records [][]byte
	for p.log.Room() >= 0 {
		size := []int{0, rnd.Intn(40), 400 + rnd.Intn(100), rnd.Intn(3000)}[rnd.Intn(4)]
		records = append(records, sized(min(size, p.log.Room())))
		p.want(p.append(records[len(records)-1]), api.OK)
	}
	p.want(p.sync(), api.OK)
	p.crash(nil)
	p.told(records...)
	p.want(p.rewrite(sized(1), sized(504*44-13-12)), api.OK)
	p.numbers(-12, 2, 2)
	p.told(sized(1), sized(504*44-13-12))
}
