package queue_test

import (
	"fmt"
	"math/rand"
	"testing"

	"farebox/api"
	"farebox/queue"
)

// P10.8: many more Puts and Acks than the disk has room for at once, on the least disk, with items of the least and the greatest size; the queue empty, half full, or full all the time. No call is refused.
func TestRoomForEver(t *testing.T) {
	for _, limit := range []int{1, 2, 3, 5, 37, 38, 39, 80} {
		for _, size := range []int{0, 1, 100, 200, 255, 256} {
			for _, left := range []int{0, limit / 2, limit - 1} {
				p := opened(t, limit)
				for n := 1; n < 12*limit+150; n++ {
					p.want(p.put(sized(size)), api.OK)
					p.want(p.ack(max(0, n-left)), api.OK)
				}
				if epoch(p.hand) < 3 && size > 150 {
					t.Errorf("limit %d, %d bytes: the log was written anew only %d times", limit, size, epoch(p.hand))
				}
				p.peeks("all", limit)
				p.again()
				p.peeks("Open", limit)
			}
		}
	}
}

// P10.8: the queue is filled to its limit and emptied, at once or one by one, again and again.
func TestRoomForAllAtOnce(t *testing.T) {
	for _, limit := range []int{1, 2, 7, 38, 100} {
		for _, by := range []int{1, 3, limit} {
			p := opened(t, limit)
			for range 6 {
				for p.queue.Len() < limit {
					p.want(p.put(sized(256)), api.OK)
				}
				p.want(p.put(""), api.ErrFull)
				for p.queue.Len() > 0 {
					p.want(p.ack(min(p.queue.Acked()+by, p.queue.Last())), api.OK)
				}
			}
		}
	}
}

// P10.8: the greatest limit on the least disk.
func TestRoomOfTheGreatestLimit(t *testing.T) {
	h := opened(t, api.MaxItems).hand
	q := found(t, h, api.MaxItems)
	item := []byte(sized(256))
	for n := 1; n <= api.MaxItems+700; n++ {
		if n > api.MaxItems {
			if err := q.Ack(n - api.MaxItems); err != nil {
				t.Fatalf("Ack: %v", err)
			}
		}
		if got, err := q.Put(item); got != n || err != nil {
			t.Fatalf("Put: %d, %v", got, err)
		}
	}
	if _, err := q.Put(nil); api.Number(err) != api.ErrFull {
		t.Errorf("Put: %v", err)
	}
	if epoch(h) < 4 {
		t.Errorf("the log was written anew only %d times", epoch(h))
	}
	l := found(t, h, api.MaxItems).Peek(api.MaxItems + 1)
	if len(l) != api.MaxItems || l[0].Seq != 701 || l[4095].Seq != 4796 || string(l[4095].Bytes) != sized(256) {
		t.Errorf("%s", short(l))
	}
}

// P10.8: a log that is full when it is opened with a smaller limit goes on.
func TestRoomBehindAnotherLimit(t *testing.T) {
	rnd := rand.New(rand.NewSource(106))
	for range 40 {
		limit := 2 + rnd.Intn(20)
		p := openedOn(t, queue.Sectors(limit)+rnd.Intn(3), limit)
		for range 8 {
			p.limit = 1 + rnd.Intn(limit)
			p.want(p.ack(max(p.queue.Acked(), p.queue.Last()-p.limit)), api.OK)
			p.again()
			for range rnd.Intn(3 * limit) {
				if p.queue.Len() == p.limit {
					p.want(p.ack(p.queue.Acked()+1+rnd.Intn(p.limit)), api.OK)
				}
				p.want(p.put(sized(256)), api.OK)
			}
		}
	}
}

// P10.8: every share that a log may have: the record of any item, and of an Ack, meets the end of the room at each place.
func TestRoomAtEveryPlace(t *testing.T) {
	for size := range 257 {
		p := opened(t, 1)
		for range 40 {
			p.want(p.put(sized(size)), api.OK)
			p.want(p.ack(p.queue.Last()), api.OK)
		}
		p.again()
		p.stands(40)
	}
	for first := range 257 {
		p := opened(t, 2, sized(first))
		for i := range 20 {
			p.want(p.put(sized(256)), api.OK)
			p.want(p.ack(i+1), api.OK)
		}
		p.again()
		p.stands(20, sized(256))
	}
}

// P10.8: records with nothing in them but numbers: Acks in a row, one item each.
func TestRoomForManyAcks(t *testing.T) {
	p := opened(t, 300)
	for round := range 30 {
		for n := range 300 {
			p.want(p.put(fmt.Sprint(round, n)), api.OK)
		}
		for n := range 300 {
			p.want(p.ack(300*round+n+1), api.OK)
		}
	}
	if epoch(p.hand) < 3 {
		t.Errorf("the log was written anew only %d times", epoch(p.hand))
	}
	p.again()
	p.stands(9000)
}
