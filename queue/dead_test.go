package queue_test

import (
	"errors"
	"math"
	"slices"
	"testing"

	"farebox/api"
	"farebox/queue"
)

// isDead holds that every call answers as of a dead queue, with the disk down and with it up again, that there is no act, and that all is as the test says.
func (p *both) isDead(acked int, items ...string) {
	p.t.Helper()
	for range 2 {
		waiting := p.hand.Waiting()
		for _, s := range []string{"", "x", sized(256), sized(257), sized(70000)} {
			p.want(p.put(s), api.ErrQueueDead)
		}
		for _, seq := range []int{math.MinInt, -1, 0, acked, acked + 1, p.queue.Last(), p.queue.Last() + 1, math.MaxInt} {
			p.want(p.ack(seq), api.ErrQueueDead)
		}
		p.want(p.sync(), api.ErrQueueDead)
		p.stands(acked, items...)
		if p.hand.Waiting() != waiting {
			p.t.Fatal("a dead queue writes")
		}
		p.hand.Crash(slices.Repeat([]bool{true}, waiting))
	}
}

// played is a queue with the limit 2 behind so many calls: Puts of items of one size, and Acks of all but the last one, in turn. It answers whether the last call wrote the log anew, too.
func played(t *testing.T, size, calls int) (*both, bool) {
	t.Helper()
	p := opened(t, 2)
	before := epoch(p.hand)
	for i := range calls {
		before = epoch(p.hand)
		if i%2 == 0 {
			p.want(p.put(sized(size)), api.OK)
		} else {
			p.want(p.ack(p.queue.Last()-1), api.OK)
		}
	}
	return p, epoch(p.hand) != before
}

// brink tells of which size items are, and how many calls there were, when the next one, a Put or an Ack, is the first to write the log anew.
func brink(t *testing.T, ack bool) (size, calls int) {
	t.Helper()
	for size = 256; size >= 0; size-- {
		for calls = 1; ; calls++ {
			if _, anew := played(t, size, calls); anew {
				break
			}
		}
		if ack == (calls%2 == 0) {
			return size, calls - 1
		}
	}
	t.Fatal("no log is written anew")
	return 0, 0
}

// atEachAct does a call with the power going at each act of it, ahead of that and behind, on a queue of which the test says how it stands. The answer is how many acts the call has.
func atEachAct(t *testing.T, build func() *both, call func(*both) api.Errno, acked int, items ...string) int {
	t.Helper()
	for acts := 0; ; acts++ {
		for _, done := range []bool{false, true} {
			p := build()
			p.stands(acked, items...)
			p.hand.Arm(acts, done)
			e := call(p)
			if !p.hand.Down() {
				p.want(e, api.OK)
				return acts
			}
			p.want(e, api.ErrDown)
			p.isDead(acked, items...)
		}
	}
}

// P10.4, P10.5: whichever act of a call is refused, the queue is dead, and as it was ahead of that.
func TestDeadAtEachAct(t *testing.T) {
	long := func(p *both) api.Errno { return p.put(sized(256)) }
	none := func(p *both) api.Errno { return p.put("") }
	first := func(p *both) api.Errno { return p.ack(p.queue.Acked() + 1) }
	all := func(p *both) api.Errno { return p.ack(p.queue.Last()) }
	empty := func() *both { return opened(t, 3) }
	some := func() *both {
		p := opened(t, 3, "a", "b")
		p.want(p.ack(1), api.OK)
		return p
	}
	two := func() *both { return opened(t, 3, "a", "b") }
	late := func() *both {
		p := opened(t, 3, "a", sized(230))
		p.want(p.ack(1), api.OK)
		return p
	}
	for what, acts := range map[string][2]int{
		"Put, the first":       {atEachAct(t, empty, long, 0), 1},
		"Put of nothing":       {atEachAct(t, empty, none, 0), 1},
		"Put behind others":    {atEachAct(t, some, long, 1, "b"), 1},
		"Put over two sectors": {atEachAct(t, late, long, 1, sized(230)), 2},
		"Ack of one":           {atEachAct(t, two, first, 0, "a", "b"), 1},
		"Ack of all":           {atEachAct(t, two, all, 0, "a", "b"), 1},
		"Sync of an empty one": {atEachAct(t, empty, (*both).sync, 0), 1},
		"Sync":                 {atEachAct(t, some, (*both).sync, 1, "b"), 1},
	} {
		if acts[0] != acts[1] {
			t.Errorf("%s: %d acts, not %d", what, acts[0], acts[1])
		}
	}
}

// P10.4, P10.5, P10.8: likewise of a call that finds no room in the log.
func TestDeadAtEachActOfARewrite(t *testing.T) {
	for _, ack := range []bool{false, true} {
		size, calls := brink(t, ack)
		build := func() *both {
			p, _ := played(t, size, calls)
			return p
		}
		p := build()
		acked, items := p.queue.Acked(), slices.Repeat([]string{sized(size)}, p.queue.Len())
		call := func(p *both) api.Errno { return p.put(sized(size)) }
		want := 1 + 1 + 2 + 3
		if ack {
			call = func(p *both) api.Errno { return p.ack(p.queue.Last() - 1) }
			want = 1 + 1 + 3
		}
		if acts := atEachAct(t, build, call, acked, items...); acts != want {
			t.Errorf("items of %d bytes, call %d: %d acts, not %d", size, calls, acts, want)
		}
		if acts := atEachAct(t, build, (*both).sync, acked, items...); acts != 1 {
			t.Errorf("Sync of a full log: %d acts", acts)
		}
	}
}

// P10.4: a call on a disk that is down already, by another's act.
func TestDeadByAnother(t *testing.T) {
	for i, call := range []func(*both) api.Errno{
		func(p *both) api.Errno { return p.put("c") },
		func(p *both) api.Errno { return p.ack(1) },
		(*both).sync,
	} {
		p := opened(t, 3, "a", "b")
		p.hand.Arm(0, i%2 == 0)
		p.disk.Sync()
		p.want(p.ack(0), api.OK)
		p.want(p.ack(3), api.ErrArg)
		p.want(p.put(sized(257)), api.ErrLong)
		p.stands(0, "a", "b")
		p.want(call(p), api.ErrDown)
		p.isDead(0, "a", "b")
	}
}

// P10.4, W10: errors are numbers, which errors.Is finds; where there is none it is nil.
func TestErrorsAreNumbers(t *testing.T) {
	p := opened(t, 1, "a")
	_, full := p.queue.Put(nil)
	_, limit := queue.Open(p.disk, 0)
	for err, want := range map[error]api.Errno{full: api.ErrFull, limit: api.ErrArg, p.queue.Ack(9): api.ErrArg} {
		if !errors.Is(err, want) {
			t.Errorf("%v, not %v", err, want)
		}
	}
	if p.queue.Sync() != nil || p.queue.Ack(1) != nil {
		t.Error("nothing is wrong, and there is an error")
	}
}

// P10.4: what was answered by a queue that is dead is not mixed up with one that is opened behind it on the same disk.
func TestDeadBesideANewOne(t *testing.T) {
	p := opened(t, 2, "a")
	p.want(p.sync(), api.OK)
	p.hand.Arm(0, false)
	p.want(p.put("b"), api.ErrDown)
	old := p.queue
	p.loses(nil)
	p.want(p.put("c"), api.OK)
	if n, err := old.Put([]byte("d")); n != 0 || api.Number(err) != api.ErrQueueDead {
		t.Errorf("%d, %v", n, err)
	}
	wantQueue(t, old, 0, "a")
	p.stands(0, "a", "c")
	p.again()
	p.stands(0, "a", "c")
}
