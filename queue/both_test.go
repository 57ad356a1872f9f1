package queue_test

import (
	"bytes"
	"encoding/binary"
	"fmt"
	"hash/crc32"
	"math"
	"math/rand"
	"testing"

	"farebox/api"
	"farebox/block"
	"farebox/queue"
	"farebox/wal"
)

// both are a queue and a slow one: whatever is done to both, both answer alike.
type both struct {
	t     *testing.T
	hand  *block.Hand
	disk  *block.Disk
	limit int
	queue *queue.Queue
	slow  *slowQueue
}

// opened are both on a new disk, of just so many sectors as there must be.
func opened(t *testing.T, limit int, items ...string) *both {
	t.Helper()
	return openedOn(t, queue.Sectors(limit), limit, items...)
}

func openedOn(t *testing.T, sectors, limit int, items ...string) *both {
	t.Helper()
	h := block.New(sectors)
	p := &both{t: t, hand: h, disk: h.Disk(), limit: limit, slow: &slowQueue{limit: limit}}
	p.again()
	for _, s := range items {
		p.want(p.put(s), api.OK)
	}
	return p
}

// again opens the disk once more, without a loss of power.
func (p *both) again() {
	p.t.Helper()
	q, err := queue.Open(p.disk, p.limit)
	if q == nil || err != nil {
		p.t.Fatalf("Open with the limit %d: %v, %v", p.limit, q, err)
	}
	p.queue, p.slow.dead, p.slow.limit = q, false, p.limit
	p.alike("Open")
}

func (p *both) put(s string) api.Errno {
	p.t.Helper()
	before := p.slow.clone()
	want, wantE := p.slow.put([]byte(s))
	down := p.hand.Down()
	n, err := p.queue.Put([]byte(s))
	if e := api.Number(err); n != want && e == api.OK || n != 0 && e != api.OK {
		p.t.Fatalf("Put of %d bytes: %d, %v, not %d", len(s), n, err, want)
	}
	return p.same(fmt.Sprintf("Put of %d bytes", len(s)), down, err, wantE, before)
}

func (p *both) ack(seq int) api.Errno {
	p.t.Helper()
	before := p.slow.clone()
	wantE := p.slow.ack(seq)
	down := p.hand.Down()
	return p.same(fmt.Sprintf("Ack(%d)", seq), down, p.queue.Ack(seq), wantE, before)
}

func (p *both) sync() api.Errno {
	p.t.Helper()
	wantE := api.OK
	if p.slow.dead {
		wantE = api.ErrQueueDead
	}
	down := p.hand.Down()
	return p.same("Sync", down, p.queue.Sync(), wantE, p.slow.clone())
}

// same holds a call's answer against the slow one's. Where the disk went down in it, or was down, it may be ErrDown; then all is as ahead of it, and the queue is dead.
func (p *both) same(what string, down bool, err error, want api.Errno, before *slowQueue) api.Errno {
	p.t.Helper()
	e := api.Number(err)
	went := p.hand.Down() && !down
	switch {
	case e == api.ErrDown && p.hand.Down() && want == api.OK:
		p.slow = before
		p.slow.dead = true
	case went || e != want || (err == nil) != (e == api.OK):
		p.t.Fatalf("%s: %v, not %d; it went down: %v", what, err, want, went)
	}
	p.alike(what)
	return e
}

// alike looks at all that can be seen of both; of a long queue only the first items.
func (p *both) alike(what string) {
	p.t.Helper()
	q, s := p.queue, p.slow
	if q.Len() != len(s.items) || q.Last() != s.last() || q.Acked() != s.acked {
		p.t.Fatalf("behind %s: Len %d, Last %d, Acked %d, not %d, %d, %d", what, q.Len(), q.Last(), q.Acked(), len(s.items), s.last(), s.acked)
	}
	mosts := []int{math.MinInt, -1, 0, 1, 2}
	if q.Len() <= 16 {
		mosts = append(mosts, q.Len()-1, q.Len(), q.Len()+1, math.MaxInt)
	}
	for _, most := range mosts {
		p.peeks(what, most)
	}
}

func (p *both) peeks(what string, most int) {
	p.t.Helper()
	if got, want := p.queue.Peek(most), p.slow.peek(most); !sameItems(got, want) {
		p.t.Fatalf("behind %s: Peek(%d): %s, not %s", what, most, short(got), short(want))
	}
}

// want holds what a call answered against what the test says, beside what the slow queue does.
func (p *both) want(e, want api.Errno) {
	p.t.Helper()
	if e != want {
		p.t.Fatalf("%d, not %d", e, want)
	}
}

// stands holds the queue against what the test says.
func (p *both) stands(acked int, items ...string) {
	p.t.Helper()
	wantQueue(p.t, p.queue, acked, items...)
}

func wantQueue(t *testing.T, q *queue.Queue, acked int, items ...string) {
	t.Helper()
	var want []api.Item
	for i, s := range items {
		want = append(want, api.Item{Seq: acked + 1 + i, Bytes: []byte(s)})
	}
	got := q.Peek(math.MaxInt)
	if !sameItems(got, want) || q.Len() != len(want) || q.Acked() != acked || q.Last() != acked+len(want) {
		t.Fatalf("%s, Len %d, Acked %d, Last %d; not %s, %d, %d", short(got), q.Len(), q.Acked(), q.Last(), short(want), acked, acked+len(want))
	}
}

// loses is a loss of power; what the disk has then is opened, and is just what the slow queue has.
func (p *both) loses(keep []bool) {
	p.t.Helper()
	p.hand.Crash(keep)
	p.again()
}

func sameItems(a, b []api.Item) bool {
	if len(a) != len(b) {
		return false
	}
	for i := range a {
		if a[i].Seq != b[i].Seq || !bytes.Equal(a[i].Bytes, b[i].Bytes) {
			return false
		}
	}
	return true
}

func short(l []api.Item) string {
	s := fmt.Sprint(len(l), " items:")
	for _, x := range l[:min(len(l), 8)] {
		s += fmt.Sprintf(" %d=%d(%.12x)", x.Seq, len(x.Bytes), x.Bytes)
	}
	return s
}

// sized is an item that tells where its bytes stand.
func sized(size int) string {
	b := make([]byte, size)
	for i := range b {
		b[i] = byte(i%251 + 1)
	}
	return string(b)
}

// someItem has sizes that meet the edges often enough.
func someItem(rnd *rand.Rand) string {
	b := make([]byte, []int{0, 1, rnd.Intn(257), 255, 256, 256}[rnd.Intn(6)])
	rnd.Read(b)
	return string(b)
}

// someKeep says of so many writes which stay.
func someKeep(rnd *rand.Rand, many int) []bool {
	keep := make([]bool, many)
	for i := range keep {
		keep[i] = rnd.Intn(2) == 0
	}
	return keep
}

// epoch is the greater number of a disk's two heads: it rises whenever a log is written anew.
func epoch(h *block.Hand) uint64 {
	return max(binary.BigEndian.Uint64(h.Sector(0)[4:]), binary.BigEndian.Uint64(h.Sector(1)[4:]))
}

// logged is a disk with a log of just these records.
func logged(t *testing.T, sectors int, records ...[]byte) *block.Hand {
	t.Helper()
	h := block.New(sectors)
	l, _, err := wal.Open(h.Disk())
	if err == nil {
		err = l.Rewrite(records)
	}
	if err != nil {
		t.Fatalf("a log of %d records: %v", len(records), err)
	}
	return h
}

// recordsOn are those of the log on a disk.
func recordsOn(t *testing.T, h *block.Hand) [][]byte {
	t.Helper()
	_, records, err := wal.Open(h.Disk())
	if err != nil {
		t.Fatal(err)
	}
	return records
}

// head is a log's head sector, of the half 0.
func head(g int) []byte {
	b := binary.BigEndian.AppendUint64([]byte("FBWL"), uint64(g))
	b = append(b, 0)
	return binary.LittleEndian.AppendUint32(b, crc32.Checksum(b, crc32.MakeTable(crc32.Castagnoli)))
}
