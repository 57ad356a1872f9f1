package link_test

import (
	"bytes"
	"fmt"
	"math/rand"
	"reflect"
	"slices"
	"testing"

	"farebox/api"
	"farebox/link"
)

// frame is one of items.
func frame(base, seq int, l ...string) api.Frame {
	f := api.Frame{Kind: api.FrameItems, Base: base, Seq: seq}
	for _, s := range l {
		f.Items = append(f.Items, []byte(s))
	}
	return f
}

// items are a queue's, from a number on.
func items(from int, l ...string) []api.Item {
	var out []api.Item
	for i, s := range l {
		out = append(out, api.Item{Seq: from + i, Bytes: []byte(s)})
	}
	return out
}

// numbered are so many items, each of which tells its number.
func numbered(from, many int) []api.Item {
	var out []api.Item
	for seq := from; seq < from+many; seq++ {
		out = append(out, api.Item{Seq: seq, Bytes: fmt.Append(nil, "item ", seq)})
	}
	return out
}

func sameFrame(a, b api.Frame) bool {
	return a.Kind == b.Kind && a.Base == b.Base && a.Seq == b.Seq && bytes.Equal(a.Bytes, b.Bytes) && slices.EqualFunc(a.Items, b.Items, bytes.Equal)
}

func sameFrames(a, b []api.Frame) bool { return slices.EqualFunc(a, b, sameFrame) }

func sameItems(a, b []api.Item) bool {
	return slices.EqualFunc(a, b, func(a, b api.Item) bool { return a.Seq == b.Seq && bytes.Equal(a.Bytes, b.Bytes) })
}

func isZero(f api.Frame) bool { return sameFrame(f, api.Frame{}) }

func cloneFrame(f api.Frame) api.Frame {
	f.Bytes = bytes.Clone(f.Bytes)
	f.Items = slices.Clone(f.Items)
	for i := range f.Items {
		f.Items[i] = bytes.Clone(f.Items[i])
	}
	return f
}

// short tells a frame without much of its bytes.
func short(l ...api.Frame) string {
	s := fmt.Sprint(len(l), " frames:")
	for _, f := range l[:min(len(l), 9)] {
		s += fmt.Sprintf(" {%d %d %d %.20q %.20q}", f.Kind, f.Base, f.Seq, f.Items[:min(len(f.Items), 9)], f.Bytes)
	}
	return s
}

// sender is one, and a slow one: whatever is done to both, both answer alike.
type sender struct {
	t    *testing.T
	link *link.Sender
	slow *slowSender
}

func newSender(t *testing.T, window, batch, every int) *sender {
	t.Helper()
	s, e := link.NewSender(window, batch, every)
	if s == nil || e != api.OK {
		t.Fatalf("NewSender(%d, %d, %d): %v, %d", window, batch, every, s, e)
	}
	return &sender{t, s, &slowSender{window: window, batch: batch, every: every}}
}

func (s *sender) tick(l []api.Item) []api.Frame {
	s.t.Helper()
	want := s.slow.tick(l)
	got := s.link.Tick(l)
	if !sameFrames(got, want) {
		s.t.Fatalf("at the tick %d, of %d items: %s, not %s", s.slow.clock, len(l), short(got...), short(want...))
	}
	return got
}

// sends holds a tick against what the test says, beside what the slow sender does.
func (s *sender) sends(l []api.Item, want ...api.Frame) {
	s.t.Helper()
	if got := s.tick(l); !sameFrames(got, want) {
		s.t.Fatalf("at the tick %d: %s, not %s", s.slow.clock, short(got...), short(want...))
	}
}

// rests is so many ticks at which nothing is sent.
func (s *sender) rests(ticks int, l []api.Item) {
	s.t.Helper()
	for range ticks {
		s.sends(l)
	}
}

// receiver is one, and a slow one.
type receiver struct {
	t    *testing.T
	link *link.Receiver
	slow *slowReceiver
}

func newReceiver(t *testing.T) *receiver {
	t.Helper()
	r := &receiver{t, link.NewReceiver(), &slowReceiver{}}
	r.acks(0, false)
	return r
}

func (r *receiver) got(f api.Frame) []api.Item {
	r.t.Helper()
	want := r.slow.got(f)
	got := r.link.Got(f)
	if !sameItems(got, want) {
		r.t.Fatalf("Got(%s): %d items, %v, not %d, %v", short(f), len(got), got, len(want), want)
	}
	r.alike()
	return got
}

func (r *receiver) take(seq int) {
	r.t.Helper()
	r.slow.take(seq)
	r.link.Take(seq)
	r.alike()
}

// alike holds both acknowledgements against each other: asking changes nothing.
func (r *receiver) alike() {
	r.t.Helper()
	want, wantIs := r.slow.ack()
	for range 2 {
		if f, is := r.link.Ack(); is != wantIs || !sameFrame(f, want) {
			r.t.Fatalf("Ack: %s, %v, not %s, %v", short(f), is, short(want), wantIs)
		}
	}
}

// gets and acks hold calls against what the test says.
func (r *receiver) gets(f api.Frame, want ...api.Item) {
	r.t.Helper()
	if got := r.got(f); !sameItems(got, want) {
		r.t.Fatalf("Got(%s): %v, not %v", short(f), got, want)
	}
}

func (r *receiver) acks(seq int, want bool) {
	r.t.Helper()
	r.alike()
	f, is := r.link.Ack()
	if is != want || is && !sameFrame(f, api.Frame{Kind: api.FrameAck, Seq: seq}) || !is && !isZero(f) {
		r.t.Fatalf("Ack: %s, %v, not %d, %v", short(f), is, seq, want)
	}
}

// someBytes meet the edges of a length often enough.
func someBytes(rnd *rand.Rand, most int) []byte {
	b := make([]byte, []int{0, 1, rnd.Intn(most + 1), most - 1, most}[rnd.Intn(5)])
	rnd.Read(b)
	return b
}

// someSeq is a number near an edge, or anywhere.
func someSeq(rnd *rand.Rand) int {
	edges := []int{0, 1, api.MaxRuns, api.MaxCounter, 1 << 40}
	return edges[rnd.Intn(len(edges))] + rnd.Intn(19) - 9
}

// someFrame is one that may be, mostly.
func someFrame(rnd *rand.Rand) api.Frame {
	switch kind := 1 + rnd.Intn(5); kind {
	case 1:
		f := api.Frame{Kind: 1, Seq: someSeq(rnd)}
		f.Base = f.Seq - rnd.Intn(4)
		if rnd.Intn(2) == 0 {
			f.Base = min(f.Seq, 1)
		}
		for range 1 + rnd.Intn(8) {
			f.Items = append(f.Items, someBytes(rnd, 256))
		}
		return f
	case 2, 3:
		return api.Frame{Kind: kind, Seq: someSeq(rnd)}
	case 4:
		return api.Frame{Kind: 4, Bytes: someBytes(rnd, 16100)}
	default:
		return api.Frame{Kind: rnd.Intn(9) - 2, Base: rnd.Intn(2), Seq: rnd.Intn(2)}
	}
}

// Senders and receivers can be asked for what the chapter lists, and nothing else.
func TestListedCalls(t *testing.T) {
	for of, want := range map[reflect.Type][]string{
		reflect.TypeFor[*link.Sender]():   {"Tick"},
		reflect.TypeFor[*link.Receiver](): {"Ack", "Got", "Take"},
	} {
		var names []string
		for m := range of.Methods() {
			names = append(names, m.Name)
		}
		if !slices.Equal(names, want) {
			t.Errorf("%v: %v, not %v", of, names, want)
		}
	}
}
