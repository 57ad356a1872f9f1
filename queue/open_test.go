package queue_test

import (
	"bytes"
	"fmt"
	"math/rand"
	"slices"
	"testing"

	"farebox/api"
	"farebox/block"
	"farebox/queue"
	"farebox/wal"
)

// refused holds that Open answers just an error.
func refused(t *testing.T, d *block.Disk, limit int, want api.Errno) {
	t.Helper()
	if q, err := queue.Open(d, limit); q != nil || api.Number(err) != want {
		t.Errorf("Open with the limit %d: %v, %v, not %d", limit, q, err, want)
	}
}

// found is the queue on a disk.
func found(t *testing.T, h *block.Hand, limit int) *queue.Queue {
	t.Helper()
	q, err := queue.Open(h.Disk(), limit)
	if q == nil || err != nil {
		t.Fatalf("Open with the limit %d: %v, %v", limit, q, err)
	}
	return q
}

// P10.2: limits that may not be, on disks that would have room; nothing is done to the disk.
func TestOpenWithLimits(t *testing.T) {
	h := block.New(queue.Sectors(4096))
	h.Arm(0, false)
	for _, limit := range noLimits {
		refused(t, h.Disk(), limit, api.ErrArg)
		refused(t, block.New(0).Disk(), limit, api.ErrArg)
	}
	if h.Down() {
		t.Error("there was an act")
	}
	h.Crash(nil)
	wantQueue(t, found(t, h, 4096), 0)
	wantQueue(t, found(t, h, 1), 0)
}

// P10.2: a disk of one sector too few, of just so many, and of more.
func TestOpenOfDisks(t *testing.T) {
	for _, limit := range []int{1, 2, 3, 37, 38, 39, 4095, 4096} {
		n := queue.Sectors(limit)
		for _, sectors := range []int{-1, 0, 1, 3, 4, 5, n / 2, n - 2, n - 1} {
			refused(t, block.New(sectors).Disk(), limit, api.ErrArg)
		}
		for _, sectors := range []int{n, n + 1, n + 2, 2 * n} {
			wantQueue(t, found(t, block.New(sectors), limit), 0)
		}
	}
}

// P10.2: a disk of MaxSectors, and of one more.
func TestOpenOfTheGreatestDisk(t *testing.T) {
	for _, limit := range []int{1, 4096} {
		refused(t, block.New(api.MaxSectors+1).Disk(), limit, api.ErrArg)
		refused(t, block.New(1<<40).Disk(), limit, api.ErrArg)
	}
	p := openedOn(t, api.MaxSectors, 2, "a", "b")
	p.want(p.ack(1), api.OK)
	p.again()
	p.stands(1, "b")
}

// P10.2: a disk that is down, whatever stands on it; ErrArg comes first.
func TestOpenOfADiskThatIsDown(t *testing.T) {
	n := queue.Sectors(2)
	for i, records := range [][][]byte{nil, {slowPut(1, "a")}, {[]byte("other")}, {slowPut(1, "a"), slowPut(2, "b"), slowPut(3, "c")}} {
		h := logged(t, n, records...)
		h.Arm(0, i%2 == 0)
		h.Disk().Sync()
		refused(t, h.Disk(), 2, api.ErrDown)
		refused(t, h.Disk(), 0, api.ErrArg)
		refused(t, h.Disk(), 3, api.ErrArg)
	}
}

// P10.2: an act is refused, at each place, on a disk with each kind of thing: ErrDown; behind a loss of power all is as it was.
func TestOpenAtEachAct(t *testing.T) {
	n := queue.Sectors(2)
	for i, records := range [][][]byte{{}, {slowPut(1, "a")}, {slowBase(7), slowPut(8, "a"), slowAck(8), slowPut(9, sized(256))}, {[]byte("other")}, {slowPut(1, "a"), slowPut(2, "b"), slowPut(3, "c")}} {
		want := []api.Errno{api.OK, api.OK, api.OK, api.ErrQueue, api.ErrQueue}[i]
		for acts := 0; ; acts++ {
			h := logged(t, n, records...)
			h.Arm(acts, acts%2 == 0)
			_, err := queue.Open(h.Disk(), 2)
			if !h.Down() {
				if api.Number(err) != want || acts < 3 {
					t.Errorf("%d: %v, behind %d acts", i, err, acts)
				}
				break
			}
			if api.Number(err) != api.ErrDown {
				t.Errorf("%d: act %d was refused: %v", i, acts, err)
			}
			h.Crash(slices.Repeat([]bool{acts%3 == 0}, h.Waiting()))
			if got := recordsOn(t, h); len(got) != len(records) || !slices.EqualFunc(got, records, bytes.Equal) {
				t.Errorf("%d: behind act %d: %q, not %q", i, acts, got, records)
			}
		}
	}
}

// P10.2: a disk without a log, whatever stands there, is a queue without items; so is one with a log to which nothing was done.
func TestOpenWithoutALog(t *testing.T) {
	rnd := rand.New(rand.NewSource(102))
	n := queue.Sectors(3)
	for i := range 50 {
		h := block.New(n)
		for at := range n {
			b := make([]byte, 512)
			rnd.Read(b)
			if i%2 == 0 {
				b = bytes.Repeat([]byte{byte(i)}, 512)
			}
			h.Plant(at, b)
		}
		p := &both{t: t, hand: h, disk: h.Disk(), limit: 3, slow: &slowQueue{}}
		p.again()
		p.stands(0)
		for range 20 {
			p.want(p.put(someItem(rnd)), api.OK)
			p.want(p.ack(p.queue.Last()), api.OK)
		}
		p.again()
	}
	wantQueue(t, found(t, logged(t, n), 3), 0)
	h := block.New(n)
	for range 3 {
		wantQueue(t, found(t, h, 3), 0)
	}
}

// P10.2: nothing of a queue is found, once both heads of its log are gone.
func TestOpenBehindAQueueThatIsGone(t *testing.T) {
	p := opened(t, 3, "a", "b", "c")
	p.want(p.ack(2), api.OK)
	p.hand.Plant(0, nil)
	p.hand.Plant(1, nil)
	wantQueue(t, found(t, p.hand, 3), 0)
}

// P10.2: a log whose head is of a number that chapter 9 refuses is no queue's; the greatest that it takes is fine.
func TestOpenOfLateLogs(t *testing.T) {
	for g, want := range map[int]api.Errno{1: api.OK, 1 << 47: api.OK, 1<<47 + 1: api.ErrQueue, 1 << 48: api.ErrQueue, 1<<48 + 1: api.OK} {
		h := block.New(8)
		h.Plant(0, head(g))
		if want == api.OK {
			wantQueue(t, found(t, h, 1), 0)
			continue
		}
		for range 2 {
			refused(t, h.Disk(), 1, want)
		}
		h.Arm(0, false)
		h.Disk().Sync()
		refused(t, h.Disk(), 1, api.ErrDown)
		refused(t, h.Disk(), 2, api.ErrArg)
	}
}

// others are records that no queue wrote.
func others() [][]byte {
	l := [][]byte{nil, {0}, {1}, {2}, {3}, {255}, []byte("a"), []byte("FBQU"), []byte("FBST"), make([]byte, 9), make([]byte, 11), make([]byte, 269), []byte(sized(9)), []byte(sized(267)), []byte(sized(1000))}
	l = append(l, record(0, 0), record(0, 1), record(4, 1), record(255, 1), record(1, 0, 0), record(1, 5, 0, 0), record(2, 1), record(2, 1, 0), record(2, 1, 0, 1), record(2, 1, 0, 0, 0), record(2, 1, 0, 1, 7, 7), record(3, 0), record(3, 1), record(3, 0, 0))
	return append(l, slowPut(0, ""), slowPut(2, ""), slowPut(1<<32-1, "a"), slowPut(1, sized(257)), slowPut(1, sized(258)), slowPut(1, sized(512)), slowAck(1), slowAck(1<<32-1), append([]byte{0}, slowPut(1, "a")...))
}

// P10.2: a log with a record that is no queue's, alone, ahead of a queue's, among them, or behind them. What stands there stays.
func TestOpenOfOtherLogs(t *testing.T) {
	right := [][]byte{slowPut(1, "a"), slowPut(2, "b"), slowAck(1), slowPut(3, "c")}
	wantQueue(t, found(t, logged(t, 20, right...), 4), 1, "b", "c")
	for _, b := range others() {
		for at := range len(right) + 1 {
			for _, records := range [][][]byte{{b}, {b, b}, slices.Insert(slices.Clone(right), at, b)} {
				if slowRow(records) != nil {
					continue // a queue might have written it here
				}
				h := logged(t, 20, records...)
				refused(t, h.Disk(), 4, api.ErrQueue)
				refused(t, h.Disk(), 4, api.ErrQueue)
				if got := recordsOn(t, h); !slices.EqualFunc(got, records, bytes.Equal) {
					t.Errorf("%q is not there any more, but %q", records, got)
				}
			}
		}
		if slowRow([][]byte{b}) != nil {
			t.Errorf("%q alone is a queue's", b)
		}
	}
}

// P10.2: a queue's records, one of them left out, doubled, in another's place, cut, or longer.
func TestOpenOfRecordsOutOfOrder(t *testing.T) {
	right := [][]byte{slowBase(5), slowPut(6, "a"), slowPut(7, ""), slowAck(6), slowPut(8, sized(256)), slowAck(7), slowPut(9, "d"), slowPut(10, "e")}
	wantQueue(t, found(t, logged(t, 20, right...), 4), 7, sized(256), "d", "e")
	for i := range right {
		asTold(t, 20, 4, slices.Delete(slices.Clone(right), i, i+1))
		for j := range right {
			asTold(t, 20, 4, slices.Insert(slices.Clone(right), i, right[j]))
			swapped := slices.Clone(right)
			swapped[i], swapped[j] = swapped[j], swapped[i]
			asTold(t, 20, 4, swapped)
		}
		for size := range len(right[i]) {
			asTold(t, 20, 4, slices.Replace(slices.Clone(right), i, i+1, right[i][:size]))
		}
		for more := 1; more < 4; more++ {
			longer := append(bytes.Clone(right[i]), make([]byte, more)...)
			asTold(t, 20, 4, slices.Replace(slices.Clone(right), i, i+1, longer))
		}
	}
}

// asTold holds Open of a log against what the records say, read slowly; it answers whether they are a queue's of that limit.
func asTold(t *testing.T, sectors, limit int, records [][]byte) bool {
	t.Helper()
	h := logged(t, sectors, records...)
	slow := slowRow(records)
	if slow == nil || len(slow.items) > limit {
		refused(t, h.Disk(), limit, api.ErrQueue)
		return false
	}
	p := &both{t: t, hand: h, disk: h.Disk(), limit: limit, slow: slow}
	p.again()
	for _, s := range []string{"", sized(256)} {
		p.put(s)
		p.ack(p.queue.Acked() + 1)
	}
	p.again()
	return true
}

// P10.2: one byte changed, at each place of each record: what is then no queue's is refused, and what a queue might have written is that queue.
func TestOpenOfChangedBytes(t *testing.T) {
	right := [][]byte{slowBase(5), slowPut(6, "abc"), slowPut(7, ""), slowAck(6), slowPut(8, sized(256)), slowPut(9, "d")}
	queues, refusals := 0, 0
	for i, b := range right {
		for at := range b {
			for _, by := range []byte{1, 2, 3, 4, 128, 255} {
				changed := bytes.Clone(b)
				changed[at] ^= by
				if asTold(t, 20, 4, slices.Replace(slices.Clone(right), i, i+1, changed)) {
					queues++
				} else {
					refusals++
				}
				if is := asTold(t, 20, 4, slices.Replace(slices.Clone(right), i, i+1, changed)[:i+1]); is && at < 4 {
					t.Errorf("record %d, byte %d: a queue's", i, at)
				}
			}
		}
	}
	if queues != 6*(3+256+1)+1 || refusals != 6*(9+11+11+9+11+11)-1 {
		t.Errorf("%d queues, %d refusals", queues, refusals)
	}
}

// P10.2: one byte of the disk changed, at each place of the sectors in use: Open ends, and tells a queue, or that there is none; no item is found that was not put.
func TestOpenOfChangedSectors(t *testing.T) {
	p := opened(t, 1, "a")
	p.want(p.ack(1), api.OK)
	p.want(p.put("second"), api.OK)
	left := [][]byte{}
	for at := range 8 {
		left = append(left, p.hand.Sector(at))
	}
	for at := range 3 {
		for i := range 90 {
			for _, by := range []byte{1, 128, 255} {
				h := block.New(8)
				for j, b := range left {
					h.Plant(j, b)
				}
				changed := bytes.Clone(left[at])
				changed[i] ^= by
				h.Plant(at, changed)
				told := fmt.Sprint(found(t, h, 1).Peek(9))
				if told != "[]" && told != fmt.Sprint(p.queue.Peek(9)) && told != "[{1 [97]}]" {
					t.Fatalf("sector %d, byte %d: %s", at, i, told)
				}
			}
		}
	}
}

// P10.2: just limit items, and one more; with a smaller and with a greater limit.
func TestOpenWithAnotherLimit(t *testing.T) {
	items := []string{"a", "b", "c", "d", "e", "f", "g"}
	for many := range items {
		p := openedOn(t, queue.Sectors(9), 9, items[:many+1]...)
		for limit := 1; limit < 10; limit++ {
			if limit < many+1 {
				refused(t, p.disk, limit, api.ErrQueue)
				continue
			}
			q := found(t, p.hand, limit)
			wantQueue(t, q, 0, items[:many+1]...)
		}
		refused(t, p.disk, 10, api.ErrArg)
		p.again()
		p.stands(0, items[:many+1]...)
	}
}

// P10.2, P10.3: behind Open its limit holds, no other one; what counts are the items that there are, not those that there were.
func TestLimitOfTheLastOpen(t *testing.T) {
	p := openedOn(t, queue.Sectors(9), 6, "a", "b", "c", "d", "e", "f")
	p.want(p.put("g"), api.ErrFull)
	p.limit = 9
	p.again()
	p.want(p.put("g"), api.OK)
	p.want(p.ack(4), api.OK)
	refused(t, p.disk, 2, api.ErrQueue)
	p.limit = 3
	p.again()
	p.want(p.put("h"), api.ErrFull)
	p.want(p.ack(6), api.OK)
	p.want(p.put("h"), api.OK)
	p.want(p.put("i"), api.OK)
	p.want(p.put("j"), api.ErrFull)
	p.again()
	p.stands(6, "g", "h", "i")
}

// P10.2: more items than there may ever be, let go in the end, are no queue's; just so many are.
func TestOpenOfTooManyItems(t *testing.T) {
	var records [][]byte
	for n := 1; n <= 4096; n++ {
		records = append(records, slowPut(n, ""))
	}
	asTold(t, 4884, 4096, records)
	asTold(t, 4884, 4095, records)
	if !asTold(t, 4884, 1, append(records, slowAck(4095))) || !asTold(t, 4884, 1, append(records, slowAck(1), slowPut(4097, ""), slowAck(4097))) {
		t.Error("4096 items at a time are refused")
	}
	if asTold(t, 4884, 1, append(records, slowPut(4097, ""), slowAck(4097))) {
		t.Error("4097 items at a time are taken")
	}
}

// P10.2: all that Open tells is safe, also what waited when it was called.
func TestOpenIsSafe(t *testing.T) {
	p := opened(t, 3, "a", "b")
	p.want(p.ack(1), api.OK)
	if p.hand.Waiting() == 0 {
		t.Fatal("nothing waits")
	}
	p.again()
	p.loses(nil)
	p.stands(1, "b")
}

// P10.2: a queue stands in a part of a disk, and leaves the other parts as they are.
func TestOpenOfParts(t *testing.T) {
	h := block.New(40)
	for at := range 40 {
		h.Plant(at, []byte{byte(at), 77})
	}
	one, other := h.Disk().Part(3, 10), h.Disk().Part(20, 12)
	q, err := queue.Open(one, 2)
	if err != nil {
		t.Fatal(err)
	}
	r, err := queue.Open(other, 3)
	if err != nil {
		t.Fatal(err)
	}
	for n := 1; n < 100; n++ {
		if a, e := q.Put([]byte("q")); a != n || e != nil || q.Ack(n-1) != nil {
			t.Fatalf("%d, %v", a, e)
		}
		if a, e := r.Put([]byte("r")); a != n || e != nil || r.Ack(n-2+n%2) != nil {
			t.Fatalf("%d, %v", a, e)
		}
	}
	wantQueue(t, q, 98, "q")
	wantQueue(t, r, 98, "r")
	refused(t, h.Disk().Part(3, 9), 2, api.ErrArg)
	refused(t, h.Disk().Part(35, 10), 1, api.ErrArg)
	for _, at := range []int{0, 1, 2, 13, 14, 19, 32, 39} {
		if !bytes.HasPrefix(h.Sector(at), []byte{byte(at), 77, 0, 0}) {
			t.Errorf("sector %d was written", at)
		}
	}
	r.Sync()
	h.Crash(nil)
	if q, err = queue.Open(one, 2); err != nil {
		t.Fatal(err)
	}
	wantQueue(t, q, 98, "q")
}

// P10.2: whatever records a log has, Open tells what they say, read slowly.
func FuzzOpened(f *testing.F) {
	f.Add(uint8(3), []byte{})
	f.Add(uint8(3), []byte{0, 0, 1, 7})
	right := [][]byte{slowBase(5), slowPut(6, "a"), slowPut(7, ""), slowAck(6), slowPut(8, "abc")}
	var all []byte
	for _, b := range right {
		all = append(append(all, byte(len(b))), b...)
	}
	f.Add(uint8(1), all)
	f.Add(uint8(2), all[10:])
	f.Fuzz(func(t *testing.T, limit uint8, b []byte) {
		var records [][]byte
		for len(b) > 0 && len(records) < 100 {
			size := min(int(b[0]), len(b)-1)
			records = append(records, b[1:1+size])
			b = b[1+size:]
		}
		if sectors := 150; wal.Fits(sectors, records) {
			asTold(t, sectors, 1+int(limit)%60, records)
		}
	})
}
