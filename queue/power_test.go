package queue_test

import (
	"fmt"
	"math"
	"math/rand"
	"slices"
	"testing"

	"farebox/api"
	"farebox/block"
	"farebox/queue"
)

// Here P10.7 stands alone: what may be found follows from what was asked and answered.

// step is a call of a queue: a Put, an Ack of some of its items, a Sync, or an Open.
type step struct {
	kind byte   // 'p', 'a', 's', 'o'
	item string // of a Put
	many int    // of an Ack: how many items more it lets go
}

// history is what was asked of a queue on a disk: how it was behind each of the Puts and Acks from the last one on that must be found.
type history struct {
	hand   *block.Hand
	limit  int
	queue  *queue.Queue
	states []*slowQueue
	under  byte // what was under way when the power went
}

func begun(sectors, limit int) *history {
	return &history{hand: block.New(sectors), limit: limit, states: []*slowQueue{{limit: limit}}}
}

func (h *history) now() *slowQueue { return h.states[len(h.states)-1] }

// told tells whether a queue stands like a slow one.
func told(q *queue.Queue, s *slowQueue) bool {
	return q.Acked() == s.acked && q.Last() == s.last() && q.Len() == len(s.items) && sameItems(q.Peek(math.MaxInt), s.items)
}

// do carries a step out; false: the power went.
func (h *history) do(t *testing.T, s step) bool {
	t.Helper()
	next := h.now().clone()
	var want api.Errno
	var err error
	switch s.kind {
	case 'p':
		_, want = next.put([]byte(s.item))
		_, err = h.queue.Put([]byte(s.item))
	case 'a':
		seq := min(h.queue.Acked()+s.many, h.queue.Last())
		next.ack(seq)
		err = h.queue.Ack(seq)
	case 's':
		err = h.queue.Sync()
	case 'o':
		h.queue, err = queue.Open(h.hand.Disk(), h.limit)
	}
	if want == api.OK {
		h.states = append(h.states, next)
	}
	switch e := api.Number(err); {
	case e == api.ErrDown && h.hand.Down():
		h.under = s.kind
		return false
	case e != want || h.hand.Down():
		t.Fatalf("%c: %v, not %d", s.kind, err, want)
	case !told(h.queue, h.now()):
		t.Fatalf("behind %c: %s, not %s", s.kind, short(h.queue.Peek(9)), short(h.now().items))
	case s.kind == 's' || s.kind == 'o':
		h.states = []*slowQueue{next}
	}
	return true
}

// mustTell holds what Open told against the states that may be found; what is found is what there is from then on.
func (h *history) mustTell(t *testing.T, what string, q *queue.Queue) {
	t.Helper()
	for _, s := range h.states {
		if told(q, s) {
			h.queue, h.states = q, []*slowQueue{s}
			return
		}
	}
	l := ""
	for _, s := range h.states {
		l += fmt.Sprintf("\n  acked %d, %s", s.acked, short(s.items))
	}
	t.Fatalf("%s, %c under way: acked %d, %s; that is none of%s", what, h.under, q.Acked(), short(q.Peek(99)), l)
}

// goesAt plays steps on a new disk, with the power going at an act; nil: there are not so many.
func goesAt(t *testing.T, limit int, steps []step, acts int, done bool) *history {
	t.Helper()
	h := begun(queue.Sectors(limit), limit)
	h.hand.Arm(acts, done)
	for _, s := range steps {
		if !h.do(t, s) {
			return h
		}
	}
	return nil
}

// copied is another disk on which the same stands, all of it safe.
func copied(h *block.Hand) *block.Hand {
	c := block.New(h.Disk().Sectors())
	for i := range h.Disk().Sectors() {
		c.Plant(i, h.Sector(i))
	}
	return c
}

// keeps are ways in which so many writes may stay: all that there are, if they are few; else none, all, the first ones, the last ones, each alone, all but each.
func keeps(many int) [][]bool {
	var l [][]bool
	if many <= 5 {
		for n := range 1 << many {
			keep := make([]bool, many)
			for i := range keep {
				keep[i] = n>>i&1 == 1
			}
			l = append(l, keep)
		}
		return l
	}
	for at := range many {
		for _, says := range []func(int) bool{
			func(i int) bool { return i < at },
			func(i int) bool { return i >= at },
			func(i int) bool { return i == at },
			func(i int) bool { return i != at },
		} {
			keep := make([]bool, many)
			for i := range keep {
				keep[i] = says(i)
			}
			l = append(l, keep)
		}
	}
	return l
}

// everywhere lets the power go at each act of some steps, with each choice of writes that stay; then, now and then, again at each act of the Open behind it. The answer is how often it went, and how often the log was written anew.
func everywhere(t *testing.T, limit int, steps []step) (losses int, epochs uint64) {
	t.Helper()
	for acts := 0; ; acts++ {
		for _, done := range []bool{false, true} {
			h := goesAt(t, limit, steps, acts, done)
			if h == nil {
				return losses, epochs
			}
			for _, keep := range keeps(h.hand.Waiting()) {
				h := goesAt(t, limit, steps, acts, done)
				h.hand.Crash(keep)
				left := copied(h.hand)
				what := fmt.Sprintf("act %d, %v, kept %v", acts, done, keep)
				q, err := queue.Open(h.hand.Disk(), limit)
				if err != nil {
					t.Fatalf("%s: %v", what, err)
				}
				h.mustTell(t, what, q)
				if losses++; losses%5 == 0 {
					again(t, left, limit, h.now())
				}
			}
			epochs = max(epochs, epoch(h.hand))
		}
	}
}

// again lets the power go at each act of an Open: the next one tells just what there was.
func again(t *testing.T, left *block.Hand, limit int, was *slowQueue) {
	t.Helper()
	for acts := 0; ; acts++ {
		h := copied(left)
		h.Arm(acts, acts%2 == 0)
		if _, err := queue.Open(h.Disk(), limit); err == nil {
			return
		}
		h.Crash(slices.Repeat([]bool{false, true, true}, h.Waiting()))
		q, err := queue.Open(h.Disk(), limit)
		if err != nil || !told(q, was) {
			t.Fatalf("behind an Open without power at act %d: %v", acts, err)
		}
	}
}

// someSteps are an Open, then as many others as asked for, with Syncs often enough for all ways in which writes may stay.
func someSteps(rnd *rand.Rand, many int) []step {
	l := []step{{kind: 'o'}}
	for range many {
		switch n := rnd.Intn(20); {
		case n < 8:
			l = append(l, step{kind: 'p', item: someItem(rnd)})
		case n < 16:
			l = append(l, step{kind: 'a', many: rnd.Intn(4)})
		case n < 19:
			l = append(l, step{kind: 's'})
		default:
			l = append(l, step{kind: 'o'})
		}
	}
	return l
}

// P10.7: the power goes at each act of long rows of calls, in Puts and Acks that write the log anew, too.
func TestPowerEverywhere(t *testing.T) {
	t.Parallel()
	rnd := rand.New(rand.NewSource(103))
	for limit := 1; limit < 4; limit++ {
		l := []step{{kind: 'o'}}
		for range 9 {
			l = append(l, step{kind: 'p', item: sized(200 + rnd.Intn(57))}, step{kind: 'a', many: 1 + rnd.Intn(2)}, step{kind: 'p', item: someItem(rnd)}, step{kind: []byte("sspaa")[rnd.Intn(5)], many: 1})
		}
		losses, epochs := everywhere(t, limit, append(l, step{kind: 'o'}))
		if losses < 300 || epochs < 3 {
			t.Errorf("limit %d: %d losses of power, %d times written", limit, losses, epochs)
		}
	}
}

// P10.7: the same at any rows of calls.
func TestPowerEverywhereInSomeSteps(t *testing.T) {
	t.Parallel()
	rnd := rand.New(rand.NewSource(104))
	for limit := range 5 {
		everywhere(t, 1+limit, someSteps(rnd, 25))
	}
}

// P10.7: without a Sync each of the states from the last one on may be found, and some are; with one, all ahead of it are there.
func TestPowerTellsStates(t *testing.T) {
	seen := map[string]int{}
	steps := []step{{kind: 'o'}, {kind: 'p', item: "a"}, {kind: 's'}, {kind: 'p', item: "b"}, {kind: 'a', many: 1}, {kind: 'p', item: sized(256)}, {kind: 'p', item: sized(255)}, {kind: 'a', many: 2}}
	for n := range 1 << 7 {
		h := begun(queue.Sectors(3), 3)
		for _, s := range steps {
			h.do(t, s)
		}
		keep := []bool{}
		for i := range h.hand.Waiting() {
			keep = append(keep, n>>i&1 == 1)
		}
		h.hand.Crash(keep)
		q := found(t, h.hand, 3)
		h.mustTell(t, fmt.Sprint(keep), q)
		seen[fmt.Sprint(q.Acked(), q.Len())]++
	}
	for _, s := range []string{"0 1", "0 2", "1 1", "1 2", "1 3", "3 1"} {
		if seen[s] == 0 {
			t.Errorf("acked, len %s was never found: %v", s, seen)
		}
	}
	if len(seen) != 6 {
		t.Errorf("%v", seen)
	}
}

// P10.7: what was under way when the power went is there, or it is not, as its writes stay.
func TestPowerInOneCall(t *testing.T) {
	for done, want := range map[bool][]string{false: {"a"}, true: {"a", "b"}} {
		p := opened(t, 2, "a")
		p.want(p.sync(), api.OK)
		p.hand.Arm(0, done)
		p.want(p.put("b"), api.ErrDown)
		p.hand.Crash([]bool{true})
		wantQueue(t, found(t, p.hand, 2), 0, want...)
	}
	for done, acked := range map[bool]int{false: 0, true: 1} {
		p := opened(t, 2, "a")
		p.want(p.sync(), api.OK)
		p.hand.Arm(0, done)
		p.want(p.ack(1), api.ErrDown)
		p.hand.Crash([]bool{true})
		wantQueue(t, found(t, p.hand, 2), acked, []string{"a"}[acked:]...)
	}
}

// P10.7: a Put and an Ack that write the log anew, with the power going at each act of it, any writes staying: what was ahead, or what is behind.
func TestPowerInARewrite(t *testing.T) {
	for _, ack := range []bool{false, true} {
		size, calls := brink(t, ack)
		seen := [2]int{}
		for acts := 0; ; acts++ {
			many := cutOff(t, size, calls, acts, nil, &seen)
			if many < 0 {
				break
			}
			for _, keep := range keeps(many) {
				cutOff(t, size, calls, acts, keep, &seen)
			}
		}
		if seen[0] < 20 || seen[1] < 2 {
			t.Errorf("as ahead of the call %d times, as behind it %d times", seen[0], seen[1])
		}
	}
}

// cutOff plays calls, makes all safe, and lets the power go at an act of the next one, with either answer of whether it was done. It counts whether what is found is as ahead of that call, or as behind it, and tells how many writes waited; below 0: there are not so many acts.
func cutOff(t *testing.T, size, calls, acts int, keep []bool, seen *[2]int) (many int) {
	t.Helper()
	for _, done := range []bool{false, true} {
		p, _ := played(t, size, calls)
		p.want(p.sync(), api.OK)
		ahead := p.slow.clone()
		behind, _ := played(t, size, calls+1)
		p.hand.Arm(acts, done)
		if calls%2 == 0 {
			p.put(sized(size))
		} else {
			p.ack(p.queue.Last() - 1)
		}
		if !p.hand.Down() {
			return -1
		}
		many = p.hand.Waiting()
		p.hand.Crash(keep)
		switch q := found(t, p.hand, 2); {
		case told(q, ahead):
			seen[0]++
		case told(q, behind.slow):
			seen[1]++
		default:
			t.Fatalf("act %d, kept %v: acked %d, %s", acts, keep, q.Acked(), short(q.Peek(9)))
		}
	}
	return many
}

// P10.7: the very first Open, interrupted anywhere, however often: a queue without items.
func TestPowerInTheFirstOpen(t *testing.T) {
	for acts := range 3 {
		for _, done := range []bool{false, true} {
			for _, stays := range []bool{false, true} {
				h := block.New(8)
				for range 5 {
					h.Arm(acts, done)
					refused(t, h.Disk(), 1, api.ErrDown)
					h.Crash([]bool{stays, stays, stays})
				}
				wantQueue(t, found(t, h, 1), 0)
			}
		}
	}
}

// P10.7: a queue's long life: any calls, the power going at any act, again and again, in Open too, any writes staying.
func TestPowerAgainAndAgain(t *testing.T) {
	t.Parallel()
	rnd := rand.New(rand.NewSource(105))
	lost := map[byte]int{}
	for range 120 {
		limit := 1 + rnd.Intn(6)
		h := begun(queue.Sectors(limit)+rnd.Intn(2)*rnd.Intn(5), limit)
		h.do(t, step{kind: 'o'})
		for range 40 {
			h.hand.Arm(rnd.Intn(25), rnd.Intn(2) == 0)
			for going := true; going; {
				for _, s := range someSteps(rnd, 10)[1:] {
					if going = h.do(t, s); !going {
						break
					}
				}
			}
			lost[h.under]++
			for rnd.Intn(2) == 0 {
				h.hand.Crash(someKeep(rnd, h.hand.Waiting()))
				h.hand.Arm(rnd.Intn(6), rnd.Intn(2) == 0)
				if q, err := queue.Open(h.hand.Disk(), limit); err == nil {
					h.mustTell(t, "with power", q)
				}
			}
			h.hand.Crash(someKeep(rnd, h.hand.Waiting()))
			h.mustTell(t, "again", found(t, h.hand, limit))
		}
	}
	for _, kind := range []byte("apso") {
		if lost[kind] < 100 {
			t.Errorf("%c was under way %d times", kind, lost[kind])
		}
	}
}

// P10.7: items that look like records of a queue, or like a whole log, are items.
func TestPowerWithLookalikes(t *testing.T) {
	t.Parallel()
	l := []step{{kind: 'o'}}
	for n := range 6 {
		inner := string(slowPut(n+2, "never"))
		l = append(l, step{kind: 'p', item: inner}, step{kind: 'p', item: string(slowAck(n+1)) + inner}, step{kind: 'a', many: 1 + n%2}, step{kind: 's'}, step{kind: 'p', item: string(head(n + 2))})
	}
	everywhere(t, 3, l)
}
