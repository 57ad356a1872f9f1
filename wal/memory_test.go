package wal_test

import (
	"bytes"
	"math/rand"
	"testing"

	"farebox/api"
	"farebox/block"
	"farebox/wal"
)

// roomy are bytes with spare room that is filled by a mark.
func roomy(b []byte) []byte { return append(bytes.Clone(b), 77, 77, 77, 77)[:len(b)] }

// fill puts a mark everywhere, into the spare room too.
func fill(b []byte) {
	for i := range b[:cap(b)] {
		b[:cap(b)][i] = 200
	}
}

// handed are records with spare room, in a list with spare room; seen is all of that memory.
func handed(records [][]byte) (l [][]byte, seen func() [][]byte) {
	for _, b := range records {
		l = append(l, roomy(b))
	}
	l = append(l, []byte("spare"))[:len(l)]
	return l, func() [][]byte {
		var all [][]byte
		for _, b := range l[:cap(l)] {
			all = append(all, bytes.Clone(b[:cap(b)]))
		}
		return all
	}
}

// P9.7: what is handed to Append is not changed, and not kept: it is other bytes behind the call, and the next sector is as it should be.
func TestAppendedBytes(t *testing.T) {
	rnd := rand.New(rand.NewSource(99))
	for range 200 {
		p := opened(t, 12)
		for range 6 {
			b := roomy(someRecord(rnd))
			before := bytes.Clone(b[:cap(b)])
			err := p.log.Append(b)
			if !bytes.Equal(b[:cap(b)], before) {
				t.Fatal("what was handed in was changed")
			}
			fill(b)
			p.same("Append", err, p.slow.append(before[:len(b)]))
		}
		p.opens()
	}
}

// P9.7: what is handed to Rewrite and Fits likewise.
func TestRewrittenBytes(t *testing.T) {
	rnd := rand.New(rand.NewSource(100))
	for range 200 {
		p := opened(t, 12)
		for range 4 {
			records := someRecords(rnd)
			l, seen := handed(records)
			before := seen()
			wal.Fits(12, l)
			err := p.log.Rewrite(l)
			if !sameRecords(seen(), before) {
				t.Fatal("what was handed in was changed")
			}
			for i := range l {
				fill(l[i])
				l[i] = nil
			}
			p.same("Rewrite", err, p.slow.rewrite(records))
			p.append([]byte("more"))
		}
		p.opens()
	}
}

// P9.7: what Open answers is new: whatever is done to it the log goes on as it was, and no two records share memory.
func TestToldBytes(t *testing.T) {
	rnd := rand.New(rand.NewSource(101))
	for range 200 {
		p := opened(t, 12)
		for range 4 {
			p.append(someRecord(rnd))
		}
		told, _ := p.open()
		want := cloned(told)
		for i := range told {
			fill(told[i])
			if !sameRecords(told[i+1:], want[i+1:]) {
				t.Fatal("two records share memory")
			}
			told[i] = nil
		}
		for i := range told[:cap(told)] {
			told[:cap(told)][i] = []byte("other")
		}
		p.alike("a change of what was told")
		p.append([]byte("more"))
		want = append(want, []byte("more"))
		p.told(want[:min(len(want), p.log.Records())]...)
	}
}

// P9.7: each record alone is told in memory of its own, those of 0 bytes too.
func TestToldApart(t *testing.T) {
	p := opened(t, 8, nil, []byte("a"), nil, []byte("b"))
	told, _ := p.open()
	for i := range told {
		told[i] = append(told[i], "....."...)
	}
	if !sameRecords(told, [][]byte{[]byte("....."), []byte("a....."), []byte("....."), []byte("b.....")}) {
		t.Errorf("two records share memory: %q", told)
	}
	p.told(nil, []byte("a"), nil, []byte("b"))
}

// W2: two disks on which the same is done are alike, and a log goes on beside others.
func TestLogsApart(t *testing.T) {
	one, other := opened(t, 8), opened(t, 10)
	one.want(one.append([]byte("a")), api.OK)
	other.want(other.append([]byte("b")), api.OK)
	one.want(one.append([]byte("c")), api.OK)
	other.arm(0, false)
	other.want(other.sync(), api.ErrDown)
	other.isDead()
	one.want(one.rewrite([]byte("a"), []byte("c")), api.OK)
	one.told([]byte("a"), []byte("c"))
}

// P9.7: a disk's own copies are not what is told.
func TestToldIsNotTheDisk(t *testing.T) {
	h := block.New(6)
	l, _, _ := wal.Open(h.Disk())
	l.Append([]byte("kept"))
	_, told, _ := wal.Open(h.Disk())
	copy(told[0], "lost")
	if _, told, _ = wal.Open(h.Disk()); string(told[0]) != "kept" {
		t.Errorf("%q", told)
	}
}
