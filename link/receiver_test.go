package link_test

import (
	"math"
	"math/rand"
	"slices"
	"strings"
	"testing"

	"farebox/api"
	"farebox/link"
)

// P12.4, P12.5: the chapter's examples.
func TestReceiverExamples(t *testing.T) {
	r := newReceiver(t)
	r.acks(0, false)
	r.gets(frame(5, 7, "c"))
	r.acks(4, true)
	r.gets(frame(5, 5, "a", "b"), items(5, "a", "b")...)
	r.take(5)
	r.gets(frame(5, 5, "a", "b"), items(6, "b")...)
	r.acks(5, true)
	r.gets(frame(9, 9, "e"), items(9, "e")...)
	r.acks(8, true)
}

// P12.4: a frame that is no FrameItems, or may not be, changes nothing, whatever the receiver knows.
func TestGotOfOtherFrames(t *testing.T) {
	wrong := []api.Frame{
		{}, {Kind: api.FrameAck}, {Kind: api.FrameAck, Seq: 9}, {Kind: api.FrameHave}, {Kind: api.FrameHave, Seq: 9}, {Kind: api.FrameDelta}, {Kind: api.FrameDelta, Bytes: []byte("d")},
		{Kind: 2, Base: 9, Seq: 9, Items: [][]byte{{1}}}, {Kind: 4, Base: 9, Seq: 9, Items: [][]byte{{1}}}, {Kind: 0, Base: 9, Seq: 9, Items: [][]byte{{1}}}, {Kind: 5, Base: 9, Seq: 9, Items: [][]byte{{1}}}, {Kind: -1, Base: 9, Seq: 9, Items: [][]byte{{1}}},
		{Kind: 1, Base: 9, Seq: 9, Items: [][]byte{{1}}, Bytes: []byte{0}},
		frame(9, 9), frame(0, 9, "a"), frame(-1, 9, "a"), frame(10, 9, "a"), frame(math.MaxInt, 9, "a"), frame(0, 0, "a"), frame(math.MinInt, math.MinInt, "a"),
		frame(9, 9, strings.Repeat("x", 257)), frame(9, 9, "a", strings.Repeat("x", 257)), frame(9, 9, slices.Repeat([]string{"x"}, 9)...),
		frame(9, api.MaxCounter, "a", "b"), frame(9, api.MaxCounter+1, "a"), frame(math.MaxInt, math.MaxInt, "a"), frame(9, math.MaxInt, "a", "b"),
		frame(api.MaxCounter+1, api.MaxCounter+1, "a"),
	}
	for _, f := range wrong {
		r := newReceiver(t)
		r.gets(f)
		r.acks(0, false)
		r.gets(frame(5, 5, "a", "b"), items(5, "a", "b")...)
		r.gets(f)
		r.acks(4, true)
		r.take(6)
		r.gets(f)
		r.acks(6, true)
	}
}

// P12.4: Base below, at and above the next number, and the next number ahead of, among and behind the frame's.
func TestGotAround(t *testing.T) {
	for next := 1; next <= 20; next++ {
		for base := 1; base <= 14; base++ {
			for seq := base; seq <= 16; seq++ {
				for many := 1; many <= 8; many++ {
					r := newReceiver(t)
					r.gets(frame(next, next, "x"), items(next, "x")...)
					now := max(next, base)
					f := frame(base, seq)
					var want []api.Item
					for _, x := range numbered(seq, many) {
						f.Items = append(f.Items, x.Bytes)
						if seq <= now && x.Seq >= now {
							want = append(want, x)
						}
					}
					r.gets(f, want...)
					r.acks(now-1, true)
					r.gets(f, want...)
					r.acks(now-1, true)
				}
			}
		}
	}
}

// P12.4: a first frame of one that knows nothing: what comes next is what its sender has not let go.
func TestGotFirst(t *testing.T) {
	for base := 1; base < 6; base++ {
		for seq := base; seq < 8; seq++ {
			r := newReceiver(t)
			var want []api.Item
			if seq == base {
				want = items(seq, "a", "b")
			}
			r.gets(frame(base, seq, "a", "b"), want...)
			r.acks(base-1, true)
		}
	}
	r := newReceiver(t)
	r.gets(frame(1, 1, "a"), items(1, "a")...)
	r.acks(0, true)
}

// P12.4: nothing is taken by Got, however often.
func TestGotTakesNothing(t *testing.T) {
	r := newReceiver(t)
	for range 5 {
		r.gets(frame(3, 3, "a", "b", "c"), items(3, "a", "b", "c")...)
		r.acks(2, true)
	}
	r.gets(frame(3, 6, "d"))
	r.take(5)
	r.gets(frame(3, 6, "d"), items(6, "d")...)
	r.gets(frame(3, 3, "a", "b", "c"))
	r.acks(5, true)
}

// P12.5: Take of one that knows nothing changes nothing, whatever the number is.
func TestTakeOfNothing(t *testing.T) {
	r := newReceiver(t)
	for _, seq := range []int{math.MinInt, -1, 0, 1, 2, 1 << 31, api.MaxCounter, api.MaxCounter + 1, math.MaxInt} {
		r.take(seq)
		r.acks(0, false)
	}
	r.gets(frame(2, 2, "a"), items(2, "a")...)
	r.acks(1, true)
}

// P12.5: Take below, at and above the next number, and at the greatest.
func TestTake(t *testing.T) {
	for _, next := range []int{1, 2, 7, api.MaxCounter - 1, api.MaxCounter} {
		for _, seq := range []int{math.MinInt, -1, 0, 1, next - 2, next - 1, next, next + 1, next + 5, api.MaxCounter - 1, api.MaxCounter, api.MaxCounter + 1, api.MaxCounter + 2, 1 << 40, math.MaxInt - 1, math.MaxInt} {
			r := newReceiver(t)
			r.gets(frame(next, next, "x"), items(next, "x")...)
			r.acks(next-1, true)
			r.take(seq)
			want := next - 1
			if seq >= next && seq <= api.MaxCounter {
				want = seq
			}
			r.acks(want, true)
			r.take(seq)
			r.acks(want, true)
			r.take(want)
			r.acks(want, true)
		}
	}
}

// P12.4, P12.5: behind the greatest number nothing comes any more.
func TestTakeOfTheGreatest(t *testing.T) {
	r := newReceiver(t)
	last := frame(api.MaxCounter, api.MaxCounter, "x")
	r.gets(last, items(api.MaxCounter, "x")...)
	r.take(api.MaxCounter)
	for range 2 {
		r.gets(last)
		r.gets(frame(1, api.MaxCounter-1, "w", "x"))
		r.acks(api.MaxCounter, true)
		r.take(api.MaxCounter)
		r.take(api.MaxCounter + 1)
		r.take(math.MaxInt)
		r.acks(api.MaxCounter, true)
	}
	f, _ := r.link.Ack()
	makes(t, "k", f)
}

// P12.5: an acknowledgement is a frame that may be, with nothing beside its number.
func TestAckMayBe(t *testing.T) {
	r := newReceiver(t)
	for _, seq := range []int{1, 2, 9, api.MaxCounter} {
		r.gets(frame(seq, seq, "x"), items(seq, "x")...)
		f, is := r.link.Ack()
		if !is || f.Base != 0 || len(f.Items) != 0 || len(f.Bytes) != 0 {
			t.Errorf("%s, %v", short(f), is)
		}
		makes(t, "k", f)
	}
}

// P12.4, P12.5: any calls, against the slow receiver.
func TestCallsAgainstTheSlowReceiver(t *testing.T) {
	rnd := rand.New(rand.NewSource(125))
	for range 500 {
		r := newReceiver(t)
		at := []int{1, 5, api.MaxCounter - 20}[rnd.Intn(3)]
		for range 100 {
			if rnd.Intn(3) == 0 {
				r.take(at + rnd.Intn(10) - 4)
				continue
			}
			f := frame(at+rnd.Intn(4)-1, at+rnd.Intn(8)-1)
			for _, x := range numbered(f.Seq, rnd.Intn(10)) {
				f.Items = append(f.Items, x.Bytes)
			}
			r.got(f)
			at += rnd.Intn(2)
		}
	}
}

// W2: receivers apart know nothing of one another.
func TestReceiversApart(t *testing.T) {
	one, other := newReceiver(t), newReceiver(t)
	one.gets(frame(3, 3, "a"), items(3, "a")...)
	one.take(3)
	other.acks(0, false)
	other.gets(frame(2, 3, "a"))
	other.acks(1, true)
	one.acks(3, true)
	if link.NewReceiver() == link.NewReceiver() {
		t.Error("two are one")
	}
}
