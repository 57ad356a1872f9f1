package store_test

import (
	"bytes"
	"fmt"
	"math/rand"
	"slices"
	"strings"
	"testing"

	"farebox/api"
	"farebox/block"
	"farebox/queue"
	"farebox/store"
	"farebox/wal"
)

// P11.2: disks of too few sectors, of just enough, of too many; nothing is done to those that are refused.
func TestOpenOfDisks(t *testing.T) {
	for _, sectors := range []int{-1, 0, 1, 2, 3, api.MaxSectors + 1, 1 << 40} {
		h := block.New(sectors)
		h.Arm(0, false)
		refused(t, h.Disk(), api.ErrArg)
		if h.Down() {
			t.Error("there was an act")
		}
	}
	for _, sectors := range []int{4, 5, 6, 7, 10, 400} {
		p := opened(t, sectors)
		p.stands(0)
		p.does("a", "1")
		p.again()
		p.stands(0, "a", "1")
	}
}

// P11.2: a disk of MaxSectors, with more than a small one takes.
func TestOpenOfTheGreatestDisk(t *testing.T) {
	p := opened(t, api.MaxSectors)
	d := p.begin()
	for n := range 100 {
		d.put(fmt.Sprint(n), biggest)
	}
	p.want(p.commit(d), api.OK)
	p.again()
	d = p.begin()
	for n := range 99 {
		d.remove(fmt.Sprint(n))
	}
	p.want(p.commit(d), api.OK)
	p.again()
	p.stands(0, "99", biggest)
}

// somewhat are logs: of a store without entries, of stores, of others.
func somewhat() ([][][]byte, []api.Errno) {
	return [][][]byte{
		{},
		{record(put("a", "1"))},
		{record(put("a", "1"), put("b", sized(700))), record(gone("a"), put("b", "")), record(put("c", "3"))},
		{[]byte("other")},
		{record(put("a", sized(1200)))},
	}, []api.Errno{api.OK, api.OK, api.OK, api.ErrStore, api.ErrStore}
}

// P11.2: a disk that is down, whatever stands on it; ErrArg comes first.
func TestOpenOfADiskThatIsDown(t *testing.T) {
	logs, _ := somewhat()
	for i, records := range logs {
		h := logged(t, 10, records...)
		h.Arm(0, i%2 == 0)
		h.Disk().Sync()
		refused(t, h.Disk(), api.ErrDown)
		refused(t, h.Disk().Part(0, 3), api.ErrArg)
	}
}

// P11.2: an act is refused, at each place, on a disk with each kind of thing: ErrDown; behind a loss of power all is as it was.
func TestOpenAtEachAct(t *testing.T) {
	logs, errs := somewhat()
	for i, records := range logs {
		for acts := 0; ; acts++ {
			h := logged(t, 10, records...)
			h.Arm(acts, acts%2 == 0)
			s, err := store.Open(h.Disk())
			if !h.Down() {
				if api.Number(err) != errs[i] || acts < 3 {
					t.Errorf("%d: %v, behind %d acts", i, err, acts)
				}
				break
			}
			if s != nil || api.Number(err) != api.ErrDown {
				t.Errorf("%d: act %d was refused: %v", i, acts, err)
			}
			h.Crash(slices.Repeat([]bool{acts%3 == 0}, h.Waiting()))
			if got := recordsOn(t, h); !slices.EqualFunc(got, records, bytes.Equal) {
				t.Errorf("%d: behind act %d: %q, not %q", i, acts, got, records)
			}
		}
	}
}

// P11.2: a disk without a log, whatever stands there, is a store without entries; so is one with a log to which nothing was done.
func TestOpenWithoutALog(t *testing.T) {
	rnd := rand.New(rand.NewSource(116))
	for i := range 50 {
		h := block.New(10)
		for at := range 10 {
			b := make([]byte, 512)
			rnd.Read(b)
			if i%2 == 0 {
				b = bytes.Repeat([]byte{byte(i)}, 512)
			}
			h.Plant(at, b)
		}
		p := &both{t: t, hand: h, disk: h.Disk(), slow: &slowStore{sectors: 10, now: entries{}}}
		p.again()
		p.stands(0)
		for n := range 20 {
			p.does("a", sized(n))
		}
		p.again()
	}
	wantStore(t, found(t, logged(t, 10)))
	h := block.New(10)
	for range 3 {
		wantStore(t, found(t, h))
	}
}

// P11.2: nothing of a store is found, once both heads of its log are gone.
func TestOpenBehindAStoreThatIsGone(t *testing.T) {
	p := with(t, 10, "a", "1", "b", "2")
	p.hand.Plant(0, nil)
	p.hand.Plant(1, nil)
	wantStore(t, found(t, p.hand))
}

// P11.2: a log whose head is of a number that chapter 9 refuses is no store's; the greatest that it takes is fine.
func TestOpenOfLateLogs(t *testing.T) {
	for g, want := range map[int]api.Errno{1: api.OK, 1 << 47: api.OK, 1<<47 + 1: api.ErrStore, 1 << 48: api.ErrStore, 1<<48 + 1: api.OK} {
		h := block.New(8)
		h.Plant(0, head(g))
		if want == api.OK {
			wantStore(t, found(t, h))
			continue
		}
		for range 2 {
			refused(t, h.Disk(), want)
		}
		h.Arm(0, false)
		h.Disk().Sync()
		refused(t, h.Disk(), api.ErrDown)
		refused(t, h.Disk().Part(0, 3), api.ErrArg)
	}
}

// others are records that no store wrote, wherever they stand.
func others() [][]byte {
	l := [][]byte{nil, {0}, {1}, {255}, []byte("a"), []byte("FBST"), []byte("FBQU"), []byte("FBST\x00\x00\x00"), make([]byte, 8), make([]byte, 9), make([]byte, 14), []byte(sized(14)), []byte(sized(1000)), bytes.Repeat([]byte{255}, 300)}
	l = append(l, record(), counting(1), counting(1<<32-1), counting(0, put("x", "1")), counting(2, put("x", "1")), counting(1<<32-1, put("x", "1")), counting(1, put("x", "1"), put("y", "1")), counting(257, put("x", "1")))
	l = append(l, record(put("", "1")), record(put("", "")), record(gone("")), record(put(tooLong, "1")), record(gone(tooLong)), record(put(strings.Repeat("k", 256), "")), record(put("x", tooBig)), record(put("x", sized(16640))))
	l = append(l, record(gone("x")), record(put("x", "1"), gone("x")), record(gone("x"), put("x", "1")), record(put("x", "1"), put("x", "1")), record(put("x", "1"), put("x", "2")), record(put("y", "1"), put("x", "1")), record(put("x", "1"), put("y", "1"), put("x\x00", "1")))
	l = append(l, record(put("x", "1"), gone("y")), record(gone("w"), put("x", "1")), record(api.Edit{Key: "a", Value: "1", Gone: true}), record(api.Edit{Key: "b", Value: "2", Gone: true}), record(put("x", "1"), put("", "1")), record(put("x", "1"), put("y", tooBig)))
	right := record(put("x", "1"))
	l = append(l, append([]byte{0}, right...), append(bytes.Clone(right), 0), append(bytes.Clone(right), 1), append(bytes.Clone(right), right...), append(bytes.Clone(right), right[8:]...))
	for _, gone := range []byte{2, 3, 128, 255} {
		wrong := bytes.Clone(right)
		wrong[len(wrong)-1] = gone
		l = append(l, wrong)
	}
	return l
}

// P11.2: a log with a record that is no store's, alone, ahead of a store's, among them, or behind them. What stands there stays.
func TestOpenOfOtherLogs(t *testing.T) {
	right := [][]byte{record(put("a", "1"), put("b", "2")), record(gone("a"), put("c", "3")), record(put("a", "4"))}
	wantStore(t, found(t, logged(t, 150, right...)), "a", "4", "b", "2", "c", "3")
	for i, b := range others() {
		for at := range len(right) + 1 {
			for _, records := range [][][]byte{{b}, {b, b}, slices.Insert(slices.Clone(right), at, b)} {
				if slowEntries(records) != nil {
					t.Errorf("%d, at %d: a store's", i, at)
				}
				h := logged(t, 150, records...)
				refused(t, h.Disk(), api.ErrStore)
				refused(t, h.Disk(), api.ErrStore)
				if got := recordsOn(t, h); !slices.EqualFunc(got, records, bytes.Equal) {
					t.Errorf("%q is not there any more, but %q", records, got)
				}
			}
		}
	}
}

// P11.2: a queue's log is no store's, and a store's no queue's.
func TestOpenOfAQueue(t *testing.T) {
	h := block.New(20)
	q, err := queue.Open(h.Disk(), 3)
	if err != nil {
		t.Fatal(err)
	}
	for _, b := range [][]byte{nil, []byte("a"), record(put("a", "1"))} {
		if _, err := q.Put(b); err != nil || q.Sync() != nil {
			t.Fatal(err)
		}
		refused(t, h.Disk(), api.ErrStore)
		if q, err = queue.Open(h.Disk(), 3); err != nil {
			t.Fatal(err)
		}
	}
	if q.Len() != 3 || q.Ack(3) != nil || q.Sync() != nil {
		t.Error("the queue is otherwise")
	}
	refused(t, h.Disk(), api.ErrStore)
	p := with(t, 20, "a", "1")
	if _, err := queue.Open(p.disk, 3); api.Number(err) != api.ErrQueue {
		t.Errorf("a queue: %v", err)
	}
	p.again()
	p.stands(0, "a", "1")
}

// asTold holds Open of a log against what the records say, read slowly; it answers whether they are a store's that has room.
func asTold(t *testing.T, sectors int, records [][]byte) bool {
	t.Helper()
	h := logged(t, sectors, records...)
	slow := slowEntries(records)
	if slow == nil || slow.size() > slowRoom(sectors) {
		refused(t, h.Disk(), api.ErrStore)
		return false
	}
	p := &both{t: t, hand: h, disk: h.Disk(), slow: &slowStore{sectors: sectors, now: slow}}
	p.again()
	for _, value := range []string{"", sized(100), "1"} {
		d := p.begin()
		d.put("m", value)
		p.commit(d)
	}
	p.again()
	return true
}

// P11.2: a store's records, one of them left out, doubled, in another's place, cut, or longer.
func TestOpenOfRecordsOutOfOrder(t *testing.T) {
	right := [][]byte{record(put("a", "1"), put("b", "2"), put("c", "3")), record(gone("b"), put("c", "4")), record(put("b", "5")), record(gone("a")), record(put("a", sized(300)), put("d", ""))}
	if !asTold(t, 40, right) {
		t.Error("they are refused")
	}
	for i := range right {
		asTold(t, 40, slices.Delete(slices.Clone(right), i, i+1))
		for j := range right {
			asTold(t, 40, slices.Insert(slices.Clone(right), i, right[j]))
			swapped := slices.Clone(right)
			swapped[i], swapped[j] = swapped[j], swapped[i]
			asTold(t, 40, swapped)
		}
		for size := range len(right[i]) {
			if asTold(t, 40, slices.Replace(slices.Clone(right), i, i+1, right[i][:size])) {
				t.Errorf("record %d, cut to %d bytes, is taken", i, size)
			}
		}
		for more := 1; more < 8; more++ {
			longer := append(bytes.Clone(right[i]), make([]byte, more)...)
			if asTold(t, 40, slices.Replace(slices.Clone(right), i, i+1, longer)) {
				t.Errorf("record %d, %d bytes longer, is taken", i, more)
			}
		}
	}
}

// P11.2: one byte changed, at each place of each record: what is then no store's is refused, and what a store might have written is that store.
func TestOpenOfChangedBytes(t *testing.T) {
	right := [][]byte{record(put("a", "1"), put("b", ""), put("key", "value")), record(gone("b"), put("key", "other")), record(put("b", sized(20)))}
	stores, refusals := 0, 0
	for i, b := range right {
		for at := range b {
			for _, by := range []byte{1, 2, 3, 4, 128, 255} {
				changed := bytes.Clone(b)
				changed[at] ^= by
				if asTold(t, 40, slices.Replace(slices.Clone(right), i, i+1, changed)) {
					stores++
				} else {
					refusals++
				}
				if is := asTold(t, 40, slices.Replace(slices.Clone(right), i, i+1, changed)[:i+1]); is && at < 8 {
					t.Errorf("record %d, byte %d: a store's", i, at)
				}
			}
		}
	}
	if stores < 150 || refusals < 250 {
		t.Errorf("%d stores, %d refusals", stores, refusals)
	}
}

// P11.2: one byte of the disk changed, at each place of the sectors in use: Open ends, and tells entries that there were behind some batch, or none.
func TestOpenOfChangedSectors(t *testing.T) {
	p := opened(t, 6)
	states := []entries{{}}
	for n := range 4 {
		p.does("a", fmt.Sprint(n), fmt.Sprint("k", n), sized(n))
		states = append(states, p.slow.now)
	}
	for at := range 6 {
		for i := range 150 {
			for _, by := range []byte{1, 128, 255} {
				h := copied(p.hand)
				changed := h.Sector(at)
				changed[i] ^= by
				h.Plant(at, changed)
				d := found(t, h).Begin()
				if !slices.ContainsFunc(states, func(s entries) bool { return told(d, s) }) {
					t.Fatalf("sector %d, byte %d: %s", at, i, short(allOf(d)))
				}
			}
		}
	}
}

// P11.2: entries that count just Room, and one more: on a disk that is smaller than the one of the store that wrote them.
func TestOpenOfFullStores(t *testing.T) {
	for _, sectors := range []int{4, 6, 10, 40} {
		room := store.Room(sectors)
		for more := -1; more <= 1; more++ {
			for parts := 1; parts <= 3; parts++ {
				p := opened(t, 100)
				for i := range parts {
					size := room / parts
					if i == 0 {
						size = room + more - (parts-1)*size
					}
					p.does(filling(string(rune('a'+i)), size))
				}
				records := recordsOn(t, p.hand)
				if is := asTold(t, sectors, records); is != (more <= 0) {
					t.Errorf("%d sectors, %d more: %v", sectors, more, is)
				}
			}
		}
	}
}

// P11.2: what counts are the entries that there are, not those that there were: a store of a greater disk that was fuller, or had a greater batch.
func TestOpenOfStoresThatWereFuller(t *testing.T) {
	p := with(t, 100, "a", "1")
	p.does(filling("b", 1000))
	d := p.begin()
	d.remove("b")
	p.want(p.commit(d), api.OK)
	h := logged(t, 10, recordsOn(t, p.hand)...)
	wantStore(t, found(t, h), "a", "1")
}

// P11.2: a store's log is one of batches, whoever wrote them one behind another: a long one, all of its records small.
func TestOpenOfLongLogs(t *testing.T) {
	var records [][]byte
	want := entries{}
	for n := range 3000 {
		e := put(fmt.Sprint(n*7919%1000), fmt.Sprint(n))
		if n%5 == 4 {
			e = gone(fmt.Sprint((n - 1) * 7919 % 1000))
		}
		want = want.behind([]api.Edit{e})
		records = append(records, record(e))
	}
	wantSame(t, found(t, logged(t, 400, records...)), want)
	if got := slowEntries(records); got == nil || got.size() != want.size() {
		t.Error("they are no store's")
	}
}

// P11.2: all that Open tells is safe, also what waited when it was called.
func TestOpenIsSafe(t *testing.T) {
	p := with(t, 10, "a", "1")
	l, _, err := wal.Open(p.disk)
	if err != nil || l.Append(record(put("b", "2"))) != nil || p.hand.Waiting() == 0 {
		t.Fatal("nothing waits")
	}
	wantStore(t, found(t, p.hand), "a", "1", "b", "2")
	p.hand.Crash(nil)
	wantStore(t, found(t, p.hand), "a", "1", "b", "2")
}

// P11.2: a store stands in a part of a disk, and leaves the other parts as they are.
func TestOpenOfParts(t *testing.T) {
	h := block.New(40)
	for at := range 40 {
		h.Plant(at, []byte{byte(at), 77})
	}
	open := func(from, many int) *both {
		p := &both{t: t, hand: h, disk: h.Disk().Part(from, many), slow: &slowStore{sectors: many, now: entries{}}}
		p.again()
		return p
	}
	one, other := open(3, 10), open(20, 12)
	for n := range 100 {
		one.does("a", sized(n))
		other.does("b", sized(2*n))
	}
	refused(t, h.Disk().Part(3, 3), api.ErrArg)
	refused(t, h.Disk().Part(37, 10), api.ErrArg)
	for _, at := range []int{0, 1, 2, 13, 14, 19, 32, 39} {
		if !bytes.HasPrefix(h.Sector(at), []byte{byte(at), 77, 0, 0}) {
			t.Errorf("sector %d was written", at)
		}
	}
	one.loses(nil)
	other.again()
	one.stands(0, "a", sized(99))
	other.stands(0, "b", sized(198))
}

// What stands on a disk outlasts the program that wrote it: a store's records stay as they are.
func TestRecordsOnTheDisk(t *testing.T) {
	p := with(t, 4, "b", "2", "a", "")
	d := p.begin()
	d.remove("b")
	d.put("c", "34")
	p.want(p.commit(d), api.OK)
	want := [][]byte{
		{70, 66, 83, 84, 0, 0, 0, 2, 0, 1, 97, 0, 0, 0, 0, 1, 98, 0, 1, 50, 0},
		{70, 66, 83, 84, 0, 0, 0, 2, 0, 1, 98, 0, 0, 1, 0, 1, 99, 0, 2, 51, 52, 0},
	}
	if got := recordsOn(t, p.hand); !slices.EqualFunc(got, want, bytes.Equal) {
		t.Errorf("%q, not %q", got, want)
	}
	p.again()
	for before := epoch(p.hand); epoch(p.hand) == before; {
		p.does("c", sized(100+p.store.Batches()))
	}
	want = [][]byte{record(p.slow.now.within("", "")...)}
	if got := recordsOn(t, p.hand); !slices.EqualFunc(got, want, bytes.Equal) {
		t.Errorf("%q, not %q", got, want)
	}
}

// P11.2: whatever records a log has, Open tells what they say, read slowly.
func FuzzOpened(f *testing.F) {
	f.Add(uint8(3), []byte{})
	f.Add(uint8(3), []byte{0, 0, 1, 7})
	right := [][]byte{record(put("a", "1"), put("b", "2")), record(gone("a"), put("c", "")), record(put("a", "3"))}
	var all []byte
	for _, b := range right {
		all = append(append(all, byte(len(b))), b...)
	}
	f.Add(uint8(1), all)
	f.Add(uint8(2), all[1+len(right[0]):])
	f.Fuzz(func(t *testing.T, sectors uint8, b []byte) {
		var records [][]byte
		for len(b) > 0 && len(records) < 100 {
			size := min(int(b[0]), len(b)-1)
			records = append(records, b[1:1+size])
			b = b[1+size:]
		}
		if sectors := 4 + int(sectors)%60; wal.Fits(sectors, records) {
			asTold(t, sectors, records)
		}
	})
}
