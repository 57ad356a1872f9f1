package queue_test

import (
	"math"
	"math/rand"
	"reflect"
	"slices"
	"testing"

	"farebox/api"
	"farebox/queue"
)

// P10.3 to P10.5, P10.7: the chapter's examples.
func TestExamples(t *testing.T) {
	p := opened(t, 2)
	for i, s := range []string{"a", "b"} {
		if n, err := p.queue.Put([]byte(s)); n != i+1 || err != nil {
			t.Errorf("Put(%s): %d, %v", s, n, err)
		}
		p.slow.put([]byte(s))
	}
	p.want(p.put("c"), api.ErrFull)
	if l := p.queue.Peek(1); !sameItems(l, []api.Item{{Seq: 1, Bytes: []byte("a")}}) {
		t.Errorf("Peek(1): %s", short(l))
	}
	p.stands(0, "a", "b")
	p.want(p.ack(1), api.OK)
	p.want(p.put("c"), api.OK)
	p.stands(1, "b", "c")
	p.want(p.ack(4), api.ErrArg)
	p.want(p.ack(3), api.OK)
	p.stands(3)
	p.want(p.ack(1), api.OK)
	p.stands(3)
	p.want(p.sync(), api.OK)
	p.loses(nil)
	p.stands(3)
	if n, err := p.queue.Put([]byte("d")); n != 4 || err != nil {
		t.Errorf("Put(d): %d, %v", n, err)
	}
}

// P10.3: items of every size up to the greatest, and greater ones, which change nothing.
func TestPutOfSizes(t *testing.T) {
	p := opened(t, 257)
	for size := range 257 {
		p.want(p.put(sized(size)), api.OK)
	}
	for i, x := range p.queue.Peek(257) {
		if string(x.Bytes) != sized(i) || x.Seq != i+1 {
			t.Fatalf("item %d: %d, %q", i, x.Seq, x.Bytes)
		}
	}
	p.loses(slices.Repeat([]bool{true}, p.hand.Waiting()))
	p.want(p.ack(200), api.OK)
	waiting := p.hand.Waiting()
	for _, size := range []int{257, 258, 512, 1000, 65535, 65536, 1 << 20} {
		p.want(p.put(sized(size)), api.ErrLong)
	}
	if p.hand.Waiting() != waiting {
		t.Error("an item that is too long was written")
	}
	p.want(p.put(sized(256)), api.OK)
}

// P10.3, W5: nil and empty bytes are the same item.
func TestPutOfNothing(t *testing.T) {
	p := opened(t, 3)
	for i, b := range [][]byte{nil, {}} {
		if n, err := p.queue.Put(b); n != i+1 || err != nil {
			t.Errorf("Put of nothing: %d, %v", n, err)
		}
		p.slow.put(b)
	}
	p.stands(0, "", "")
	p.again()
	p.stands(0, "", "")
}

// P10.3: just limit items, and no more, whatever the limit; with one let go there is room for one.
func TestPutUpToTheLimit(t *testing.T) {
	for _, limit := range []int{1, 2, 3, 7, 100} {
		p := opened(t, limit)
		for range 3 {
			for p.queue.Len() < limit {
				p.want(p.put("x"), api.OK)
			}
			acts := p.hand.Waiting()
			p.want(p.put("y"), api.ErrFull)
			p.want(p.put(""), api.ErrFull)
			if p.hand.Waiting() != acts {
				t.Error("an item for which there is no room was written")
			}
			p.want(p.ack(p.queue.Acked()+1), api.OK)
			p.want(p.put("z"), api.OK)
			p.want(p.put("y"), api.ErrFull)
			p.want(p.ack(p.queue.Last()), api.OK)
		}
	}
}

// near is a queue with a limit of 2 whose last number is by so many less than the greatest.
func near(t *testing.T, less int) *both {
	t.Helper()
	n := api.MaxCounter - less
	h := logged(t, queue.Sectors(2), slowBase(n))
	p := &both{t: t, hand: h, disk: h.Disk(), limit: 2, slow: &slowQueue{acked: n}}
	p.again()
	return p
}

// P10.3: the greatest number is given out; behind it nothing is put any more, whatever is let go.
func TestPutUpToTheGreatestNumber(t *testing.T) {
	for less := range 4 {
		p := near(t, less)
		for n := api.MaxCounter - less + 1; n <= api.MaxCounter; n++ {
			p.want(p.put("x"), api.OK)
			p.want(p.ack(n), api.OK)
		}
		for range 2 {
			p.want(p.put(""), api.ErrBig)
			p.want(p.put(sized(256)), api.ErrBig)
			p.want(p.sync(), api.OK)
			p.loses(nil)
			p.stands(api.MaxCounter)
		}
		p.want(p.ack(api.MaxCounter), api.OK)
		p.want(p.ack(api.MaxCounter+1), api.ErrArg)
	}
}

// P10.3, W4: which error it is where several would fit: that of a dead queue, of a long item, of a full one, of the greatest number, in this order.
func TestPutWithSeveralErrors(t *testing.T) {
	p := near(t, 2)
	p.want(p.put("a"), api.OK)
	p.want(p.put("b"), api.OK)
	p.want(p.put(sized(257)), api.ErrLong)
	p.want(p.put("c"), api.ErrFull)
	p.want(p.ack(api.MaxCounter-1), api.OK)
	p.want(p.put(sized(257)), api.ErrLong)
	p.want(p.put("c"), api.ErrBig)
	p.hand.Arm(0, false)
	p.want(p.sync(), api.ErrDown)
	p.want(p.put(sized(257)), api.ErrQueueDead)
	p.want(p.put("c"), api.ErrQueueDead)

	p = opened(t, 1, "a")
	p.want(p.put(sized(257)), api.ErrLong)
	p.hand.Arm(0, true)
	p.want(p.sync(), api.ErrDown)
	p.want(p.put(sized(257)), api.ErrQueueDead)
	p.want(p.put("c"), api.ErrQueueDead)
	p.want(p.ack(-1), api.ErrQueueDead)
	p.want(p.ack(2), api.ErrQueueDead)
}

// P10.3: Ack of every number about those that there are, and of the least and the greatest.
func TestAckOfNumbers(t *testing.T) {
	none := []int{math.MinInt, math.MinInt + 1, -1 << 32, -2, -1}
	above := []int{1 << 31, 1<<32 - 1, 1 << 32, 1<<32 + 3, math.MaxInt - 1, math.MaxInt}
	for seq := range 9 {
		p := opened(t, 9, "a", "b", "c", "d", "e", "f", "g", "h")
		p.want(p.ack(3), api.OK)
		for _, n := range append(append(none, 9, 10), above...) {
			p.want(p.ack(n), api.ErrArg)
		}
		p.want(p.ack(seq), api.OK)
		p.stands(max(3, seq), []string{"a", "b", "c", "d", "e", "f", "g", "h"}[max(3, seq):]...)
		p.want(p.ack(seq), api.OK)
		p.again()
		p.stands(max(3, seq), []string{"a", "b", "c", "d", "e", "f", "g", "h"}[max(3, seq):]...)
		for _, n := range append(append(none, 9, 10), above...) {
			p.want(p.ack(n), api.ErrArg)
		}
	}
}

// P10.3: of a queue without items Ack takes what is acked, and less.
func TestAckOfNothing(t *testing.T) {
	p := opened(t, 2)
	p.want(p.ack(0), api.OK)
	p.want(p.ack(1), api.ErrArg)
	p.want(p.ack(-1), api.ErrArg)
	p.stands(0)
	p.want(p.put("a"), api.OK)
	p.want(p.ack(0), api.OK)
	p.stands(0, "a")
	p.want(p.ack(1), api.OK)
	for _, n := range []int{0, 1} {
		p.want(p.ack(n), api.OK)
	}
	p.want(p.ack(2), api.ErrArg)
	p.stands(1)
}

// P10.3: what lets nothing go, or is refused, is no act: it can be done as often as one likes, with the disk down, too.
func TestAckWithoutActs(t *testing.T) {
	p := opened(t, 2, "a", "b")
	p.want(p.ack(1), api.OK)
	p.want(p.sync(), api.OK)
	before := epoch(p.hand)
	p.hand.Arm(0, false)
	for range 300 {
		p.want(p.ack(0), api.OK)
		p.want(p.ack(1), api.OK)
		p.want(p.ack(3), api.ErrArg)
		p.want(p.put(sized(257)), api.ErrLong)
	}
	if p.hand.Waiting() != 0 || p.hand.Down() || epoch(p.hand) != before {
		t.Error("there was an act")
	}
	p.want(p.ack(2), api.ErrDown)
}

// P10.5: Peek of every most, at several lengths.
func TestPeek(t *testing.T) {
	items := []string{"a", "", sized(256), "d", "", "f"}
	for many := range len(items) {
		p := opened(t, 6, items[:many]...)
		for most := -3; most < 10; most++ {
			p.peeks("Put", most)
			if n := len(p.queue.Peek(most)); n != max(0, min(most, many)) {
				t.Errorf("Peek(%d) of %d items: %d", most, many, n)
			}
		}
		p.want(p.ack(many/2), api.OK)
		for most := -3; most < 10; most++ {
			p.peeks("Ack", most)
		}
	}
}

// P10.3, P10.5: numbers go on by 1, over Acks that let all go, over Open, and over losses of power.
func TestNumbersGoOn(t *testing.T) {
	p := opened(t, 2)
	for n := 1; n < 200; n++ {
		p.want(p.put(sized(n)), api.OK)
		if p.queue.Last() != n {
			t.Fatalf("Last: %d, not %d", p.queue.Last(), n)
		}
		p.want(p.ack(n), api.OK)
		switch n % 4 {
		case 1:
			p.again()
		case 2:
			p.want(p.sync(), api.OK)
			p.loses(nil)
		}
		p.stands(n)
	}
}

// P10.3 to P10.5, P10.8: any calls with power, over many Opens, against the slow queue.
func TestCallsAgainstTheSlowQueue(t *testing.T) {
	rnd := rand.New(rand.NewSource(101))
	for range 60 {
		p := opened(t, 1+rnd.Intn(9))
		for range 300 {
			switch n := rnd.Intn(20); {
			case n < 9:
				p.put(someItem(rnd))
			case n < 16:
				p.ack(p.queue.Acked() - 1 + rnd.Intn(p.queue.Len()+3))
			case n < 18:
				p.want(p.sync(), api.OK)
			case n < 19:
				p.again()
			default:
				p.want(p.sync(), api.OK)
				p.loses(nil)
			}
		}
	}
}

// A queue can be asked for what the chapter lists, and for nothing that would write past it.
func TestListedCalls(t *testing.T) {
	var names []string
	for m := range reflect.TypeFor[*queue.Queue]().Methods() {
		names = append(names, m.Name)
	}
	if want := []string{"Ack", "Acked", "Last", "Len", "Peek", "Put", "Sync"}; !slices.Equal(names, want) {
		t.Errorf("%v, not %v", names, want)
	}
}
