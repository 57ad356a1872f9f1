package link_test

import (
	"math/rand"
	"slices"
	"testing"

	"farebox/api"
	"farebox/block"
	"farebox/link"
	"farebox/queue"
)

// way is a link from a queue to receivers, one behind another, and back. It holds what P12.8 says at each step. Frames go over it as bytes.
type way struct {
	t      *testing.T
	secret string
	sender *link.Sender
	items  []api.Item // all that there ever were: the number 1 comes first
	let    int        // all items up to that number were let go
	there  [][]byte   // frames of items that were sent
	back   [][]byte   // acknowledgements that were sent
	now    *link.Receiver
	last   int          // what this receiver took last; 0: nothing
	taken  map[int]bool // by any receiver
	atOnce int          // how many of the items that come next a receiver takes at a time; 0: all
}

func newWay(t *testing.T, many, window, batch, every int) *way {
	t.Helper()
	s, e := link.NewSender(window, batch, every)
	if e != api.OK {
		t.Fatal(e)
	}
	secret, _ := link.Secret("k", 7)
	return &way{t: t, secret: secret, sender: s, items: numbered(1, many), now: link.NewReceiver(), taken: map[int]bool{}}
}

// tick sends what is due; the answer are the places of the frames.
func (w *way) tick() []int {
	w.t.Helper()
	var at []int
	for _, f := range w.sender.Tick(w.items[w.let:]) {
		if f.Base != w.let+1 {
			w.t.Fatalf("Base %d, where %d are let go", f.Base, w.let)
		}
		at = append(at, len(w.there))
		w.there = append(w.there, w.made(f))
	}
	return at
}

func (w *way) made(f api.Frame) []byte {
	w.t.Helper()
	b, e := link.Make(w.secret, f)
	if e != api.OK {
		w.t.Fatalf("Make(%s): %d", short(f), e)
	}
	return b
}

func (w *way) parsed(b []byte) api.Frame {
	w.t.Helper()
	f, e := link.Parse(w.secret, b)
	if e != api.OK {
		w.t.Fatalf("Parse(%x): %d", b, e)
	}
	return f
}

// arrives is the frame at a place, once more or for the first time; what comes next is taken, and acknowledged. The answer is the place of that.
func (w *way) arrives(at int) int {
	w.t.Helper()
	l := w.now.Got(w.parsed(w.there[at]))
	if w.atOnce > 0 {
		l = l[:min(len(l), w.atOnce)]
	}
	for _, x := range l {
		w.takes(x)
	}
	f, is := w.now.Ack()
	if !is {
		w.t.Fatal("there was a frame, and nothing is known")
	}
	for seq := 1; seq <= f.Seq; seq++ {
		if !w.taken[seq] {
			w.t.Fatalf("%d are acknowledged, and %d was not taken", f.Seq, seq)
		}
	}
	w.back = append(w.back, w.made(f))
	return len(w.back) - 1
}

// takes holds that what a receiver takes rises, each once, is what was sent, and that what it leaves out was let go.
func (w *way) takes(x api.Item) {
	w.t.Helper()
	if x.Seq <= w.last || x.Seq > len(w.items) || !sameItems([]api.Item{x}, w.items[x.Seq-1:x.Seq]) {
		w.t.Fatalf("%v is taken behind %d", x, w.last)
	}
	if x.Seq != w.last+1 && x.Seq > w.let+1 {
		w.t.Fatalf("%d is taken behind %d, where %d are let go", x.Seq, w.last, w.let)
	}
	w.last, w.taken[x.Seq] = x.Seq, true
	w.now.Take(x.Seq)
}

// comesBack is an acknowledgement, as a queue takes it: one that is late lets nothing go.
func (w *way) comesBack(at int) {
	w.t.Helper()
	f := w.parsed(w.back[at])
	if f.Seq > len(w.items) {
		w.t.Fatalf("%d of %d items are acknowledged", f.Seq, len(w.items))
	}
	w.let = max(w.let, f.Seq)
}

func (w *way) beginsAnew() { w.now, w.last = link.NewReceiver(), 0 }

// someStep is anything that may happen to what is on the way.
func (w *way) someStep(rnd *rand.Rand, anew int) {
	w.t.Helper()
	switch n := rnd.Intn(100); {
	case n < anew:
		w.beginsAnew()
	case n < 30:
		w.tick()
	case n < 65 && len(w.there) > 0:
		w.arrives(rnd.Intn(len(w.there)))
	case n < 80 && len(w.there) > 0:
		w.arrives(len(w.there) - 1)
	case n < 90 && len(w.back) > 0:
		w.comesBack(rnd.Intn(len(w.back)))
	case len(w.back) > 0:
		w.comesBack(len(w.back) - 1)
	}
}

// P12.8: frames and acknowledgements that are lost, doubled, mixed up and late, and receivers that begin anew.
func TestEachOnceInOrder(t *testing.T) {
	rnd := rand.New(rand.NewSource(129))
	all := 0
	for round := range 300 {
		w := newWay(t, 1+rnd.Intn(40), 1+rnd.Intn(10), 1+rnd.Intn(5), 1+rnd.Intn(4))
		w.atOnce = rnd.Intn(3)
		for range 400 {
			w.someStep(rnd, round%5)
		}
		all += w.let
	}
	if all < 2000 {
		t.Errorf("only %d items were let go", all)
	}
}

// P12.8: every row of so many steps, on ways of a few items.
func TestEachOnceInOrderAllRows(t *testing.T) {
	for batch := 1; batch <= 2; batch++ {
		for every := 1; every <= 2; every++ {
			build := func() *way { return newWay(t, 3, 2, batch, every) }
			if rows := allRows(build, 6); rows < 1000 {
				t.Errorf("only %d rows", rows)
			}
		}
	}
}

// allRows goes every row of at most so many steps behind those that are given, and tells how many there are.
func allRows(build func() *way, more int, steps ...int) int {
	w := build()
	for _, n := range steps {
		w.nth(n)
	}
	rows := 1
	if more > 0 {
		for n := range 2 + len(w.there) + len(w.back) {
			rows += allRows(build, more-1, append(slices.Clone(steps), n)...)
		}
	}
	return rows
}

// nth is the step with a number, of all that may happen now.
func (w *way) nth(n int) {
	w.t.Helper()
	switch {
	case n == 0:
		w.tick()
	case n == 1:
		w.beginsAnew()
	case n < 2+len(w.there):
		w.arrives(n - 2)
	default:
		w.comesBack(n - 2 - len(w.there))
	}
}

// loser loses frames as long as it may: of each K sendings of an item, and of each K acknowledgements, one arrives.
type loser struct {
	k     int
	lost  map[int]int // by an item's number: how many of its last sendings were lost, one behind another; 0: acknowledgements
	wants func() bool
}

func (l *loser) loses(numbers ...int) bool {
	lost := l.wants()
	for _, n := range numbers {
		lost = lost && l.lost[n] < l.k-1
	}
	for _, n := range numbers {
		l.lost[n]++
		if !lost {
			l.lost[n] = 0
		}
	}
	return lost
}

// run is so many ticks as it takes until all items are let go; at most so many.
func (w *way) run(l *loser, rnd *rand.Rand, anew bool, most int) int {
	w.t.Helper()
	for tick := 1; tick <= most; tick++ {
		frames := w.tick()
		rnd.Shuffle(len(frames), func(i, j int) { frames[i], frames[j] = frames[j], frames[i] })
		for _, at := range frames {
			f := w.parsed(w.there[at])
			var numbers []int
			for i := range f.Items {
				numbers = append(numbers, f.Seq+i)
			}
			if l.loses(numbers...) {
				continue
			}
			if anew && rnd.Intn(4) == 0 {
				w.beginsAnew()
			}
			if back := w.arrives(at); !l.loses(0) {
				w.comesBack(back)
			}
		}
		if w.let == len(w.items) {
			return tick
		}
	}
	return most + 1
}

// P12.9: whatever is lost, within the chapter's bound all items are let go; with receivers that begin anew, too.
func TestInTheEndAll(t *testing.T) {
	rnd := rand.New(rand.NewSource(130))
	for _, k := range []int{1, 2, 3, 5} {
		for _, every := range []int{1, 2, 3, 7} {
			for range 12 {
				n, window, batch := 1+rnd.Intn(25), 1+rnd.Intn(9), 1+rnd.Intn(5)
				wants := []func() bool{func() bool { return true }, func() bool { return rnd.Intn(2) == 0 }, func() bool { return rnd.Intn(8) > 0 }}
				for i, want := range wants {
					w := newWay(t, n, window, batch, every)
					bound := 2*n*k*k*every + n*k*every
					if took := w.run(&loser{k, map[int]int{}, want}, rnd, i != 1, bound); took > bound {
						t.Fatalf("%d items, window %d, batch %d, every %d, K %d: %d are let go behind %d ticks", n, window, batch, every, k, w.let, bound)
					}
				}
			}
		}
	}
}

// P12.8, P12.9: where nothing is lost, all items go over in order, each sent once, with whatever window there is.
func TestNothingIsLost(t *testing.T) {
	rnd := rand.New(rand.NewSource(131))
	for _, window := range []int{1, 3, 8, 64} {
		w := newWay(t, 200, window, 4, 2)
		never := &loser{1, map[int]int{}, func() bool { return true }}
		took := w.run(never, rnd, false, 400)
		if w.let != 200 || len(w.taken) != 200 || w.last != 200 {
			t.Errorf("a window of %d: %d of 200 items within %d ticks", window, w.let, took)
		}
	}
}

// P12.3, P12.8: a queue on a disk, from which items are let go as they are acknowledged, while others come.
func TestQueueOverALink(t *testing.T) {
	rnd := rand.New(rand.NewSource(132))
	h := block.New(queue.Sectors(10))
	q, err := queue.Open(h.Disk(), 10)
	if err != nil {
		t.Fatal(err)
	}
	s, _ := link.NewSender(api.LinkWindow, api.LinkBatch, api.LinkEvery)
	r := link.NewReceiver()
	all := numbered(1, 300)
	var taken []api.Item
	for tick := 0; q.Acked() < len(all); tick++ {
		for q.Len() < 10 && q.Last() < len(all) {
			q.Put(all[q.Last()].Bytes)
		}
		for _, f := range s.Tick(q.Peek(api.LinkWindow)) {
			if rnd.Intn(3) == 0 {
				continue
			}
			for _, x := range r.Got(f) {
				taken = append(taken, x)
				r.Take(x.Seq)
			}
			if f, is := r.Ack(); is && rnd.Intn(3) > 0 {
				q.Ack(f.Seq)
			}
		}
		if tick > 10000 {
			t.Fatalf("%d of %d items behind %d ticks", q.Acked(), len(all), tick)
		}
	}
	if !sameItems(taken, all) {
		t.Errorf("%d items were taken", len(taken))
	}
}
