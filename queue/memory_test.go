package queue_test

import (
	"bytes"
	"math/rand"
	"slices"
	"testing"

	"farebox/api"
	"farebox/block"
	"farebox/queue"
)

// roomy are bytes with spare room that is filled by a mark.
func roomy(s string) []byte { return append([]byte(s), 77, 77, 77, 77)[:len(s)] }

// fill puts a mark everywhere, into the spare room too.
func fill(b []byte) {
	for i := range b[:cap(b)] {
		b[:cap(b)][i] = 200
	}
}

// P10.6: what is handed to Put is not changed, nor its spare room, and not kept: it is other bytes behind the call.
func TestPutBytes(t *testing.T) {
	rnd := rand.New(rand.NewSource(107))
	for range 60 {
		p := opened(t, 3)
		for range 30 {
			s := someItem(rnd)
			b := roomy(s)
			before := bytes.Clone(b[:cap(b)])
			n, err := p.queue.Put(b)
			if !bytes.Equal(b[:cap(b)], before) {
				t.Fatal("what was handed in was changed")
			}
			fill(b)
			if want, e := p.slow.put([]byte(s)); n != want || api.Number(err) != e {
				t.Fatalf("Put: %d, %v", n, err)
			}
			p.alike("Put")
			if rnd.Intn(2) == 0 {
				p.ack(p.queue.Acked() + rnd.Intn(p.queue.Len()+1))
			}
		}
		p.again()
	}
}

// P10.6: a refused item is not changed either.
func TestRefusedBytes(t *testing.T) {
	p := opened(t, 1, "a")
	for _, size := range []int{0, 3, 256, 257} {
		b := roomy(sized(size))
		before := bytes.Clone(b[:cap(b)])
		p.queue.Put(b)
		if !bytes.Equal(b[:cap(b)], before) {
			t.Error("what was handed in was changed")
		}
	}
}

// P10.6, W6: whatever is done to what Peek answered, the queue is as it was, and so is another answer.
func TestPeekedBytes(t *testing.T) {
	rnd := rand.New(rand.NewSource(108))
	for range 60 {
		p := opened(t, 6)
		for range 6 {
			p.put(someItem(rnd))
		}
		p.want(p.ack(rnd.Intn(4)), api.OK)
		for _, most := range []int{0, 1, 2, 6, 9} {
			l, other := p.queue.Peek(most), p.queue.Peek(most)
			want := p.slow.peek(most)
			for i := range l {
				fill(l[i].Bytes)
				if !sameItems(l[i+1:], want[i+1:]) {
					t.Fatal("two items share memory")
				}
			}
			for i := range l[:cap(l)] {
				l[:cap(l)][i] = api.Item{Seq: -1}
			}
			if !sameItems(other, want) {
				t.Fatal("two answers share memory")
			}
			p.alike("a change of what was answered")
		}
		p.put("more")
		p.again()
	}
}

// P10.6: appending to one item changes neither the next one nor the queue, items of 0 bytes too.
func TestAppendingToItems(t *testing.T) {
	items := []string{"", "a", "", "bcd", sized(256), "", "e"}
	p := opened(t, 7, items...)
	for range 2 {
		l := p.queue.Peek(7)
		for i := range l {
			l[i].Bytes = append(l[i].Bytes, "......"...)
		}
		for i, s := range items {
			if string(l[i].Bytes) != s+"......" {
				t.Errorf("item %d: %q", i, l[i].Bytes)
			}
		}
		l = append(l, api.Item{Seq: 99})
		p.stands(0, items...)
		p.want(p.put("x"), api.ErrFull)
		p.again()
	}
}

// P10.6: no item has spare room, which another one might stand in.
func TestItemsAreCutOff(t *testing.T) {
	p := opened(t, 4, "a", "bc", "", "def")
	for _, most := range []int{1, 2, 3, 4} {
		for _, x := range p.queue.Peek(most) {
			if cap(x.Bytes) != len(x.Bytes) {
				t.Errorf("item %d: %d bytes, room for %d", x.Seq, len(x.Bytes), cap(x.Bytes))
			}
		}
	}
}

// P10.6: an answer from before stays what it was, whatever is put and let go behind it.
func TestAnswersStay(t *testing.T) {
	p := opened(t, 3, "a", "b", "c")
	l := p.queue.Peek(3)
	for n := 1; n < 50; n++ {
		p.want(p.ack(n), api.OK)
		p.want(p.put(sized(n)), api.OK)
	}
	want := []api.Item{{Seq: 1, Bytes: []byte("a")}, {Seq: 2, Bytes: []byte("b")}, {Seq: 3, Bytes: []byte("c")}}
	if !sameItems(l, want) {
		t.Errorf("%s", short(l))
	}
}

// P10.6: what is changed in an answer is in no record that is written anew.
func TestRewrittenItems(t *testing.T) {
	p := opened(t, 2, "kept")
	before := epoch(p.hand)
	for epoch(p.hand) == before {
		for _, x := range p.queue.Peek(2) {
			fill(x.Bytes)
		}
		p.want(p.put(sized(256)), api.OK)
		p.want(p.ack(p.queue.Last()-1), api.OK)
	}
	p.want(p.sync(), api.OK)
	p.loses(nil)
	p.stands(p.queue.Acked(), sized(256))
}

// W2: two disks on which the same is done are alike, byte for byte; a queue goes on beside others.
func TestQueuesApart(t *testing.T) {
	rnd := rand.New(rand.NewSource(109))
	one, other, third := opened(t, 3), opened(t, 3), opened(t, 3)
	for range 200 {
		s, many := someItem(rnd), rnd.Intn(3)
		for _, p := range []*both{one, other} {
			p.put(s)
			p.ack(min(p.queue.Acked()+many, p.queue.Last()))
		}
		third.put("third")
		third.ack(third.queue.Last() - 1)
	}
	for at := range queue.Sectors(3) {
		if !bytes.Equal(one.hand.Sector(at), other.hand.Sector(at)) {
			t.Errorf("sector %d", at)
		}
	}
	one.hand.Arm(0, false)
	one.want(one.sync(), api.ErrDown)
	other.want(other.sync(), api.OK)
	third.stands(199, "third")
}

// What stands on a disk outlasts the program that wrote it: a queue's records stay as they are.
func TestRecordsOnTheDisk(t *testing.T) {
	p := opened(t, 3, "a", "", sized(256))
	p.want(p.ack(2), api.OK)
	p.want(p.put("d"), api.OK)
	want := [][]byte{{70, 66, 81, 85, 2, 0, 0, 0, 1, 0, 1, 97}, {70, 66, 81, 85, 2, 0, 0, 0, 2, 0, 0}, slowPut(3, sized(256)), {70, 66, 81, 85, 3, 0, 0, 0, 2}, slowPut(4, "d")}
	if got := recordsOn(t, p.hand); !slices.EqualFunc(got, want, bytes.Equal) {
		t.Errorf("%q, not %q", got, want)
	}
	size, calls := brink(t, false)
	p, _ = played(t, size, calls+1)
	n := p.queue.Acked()
	want = [][]byte{slowBase(n), slowPut(n+1, sized(size)), slowPut(n+2, sized(size))}
	if got := recordsOn(t, p.hand); !slices.EqualFunc(got, want, bytes.Equal) {
		t.Errorf("%q, not %q", got, want)
	}
}

// P10.6: the disk is whoever's it was: it can be asked further on.
func TestDiskStays(t *testing.T) {
	h := block.New(10)
	d := h.Disk()
	q, _ := queue.Open(d, 2)
	q.Put([]byte("a"))
	if d.Sectors() != 10 || d.Sync() != nil {
		t.Error("the disk was changed")
	}
	h.Crash(nil)
	wantQueue(t, found(t, h, 2), 0, "a")
}
