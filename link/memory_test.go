package link_test

import (
	"bytes"
	"math/rand"
	"slices"
	"testing"

	"farebox/api"
	"farebox/link"
)

// roomy are bytes with spare room that is filled by a mark.
func roomy(b []byte) []byte { return append(bytes.Clone(b), 77, 77, 77, 77)[:len(b)] }

// fill puts a mark everywhere, into the spare room too.
func fill(b []byte) {
	b = b[:cap(b)]
	for i := range b {
		b[i] = 200
	}
}

// roomyFrame is a frame whose lists and bytes have all spare room.
func roomyFrame(f api.Frame) api.Frame {
	l := make([][]byte, len(f.Items), len(f.Items)+3)
	for i := range f.Items {
		l[i] = roomy(f.Items[i])
	}
	for i := range 3 {
		l[:cap(l)][len(l)+i] = []byte("spare")
	}
	f.Items, f.Bytes = l, roomy(f.Bytes)
	return f
}

// wholeFrame is a copy of a frame, with all spare room as if it were there.
func wholeFrame(f api.Frame) api.Frame {
	f.Items = slices.Clone(f.Items[:cap(f.Items)])
	for i, b := range f.Items {
		f.Items[i] = bytes.Clone(b[:cap(b)])
	}
	f.Bytes = bytes.Clone(f.Bytes[:cap(f.Bytes)])
	return f
}

// fillFrame spoils all memory that a frame reaches.
func fillFrame(f api.Frame) {
	fill(f.Bytes)
	for i, b := range f.Items[:cap(f.Items)] {
		fill(b)
		f.Items[:cap(f.Items)][i] = []byte("other")
	}
}

// roomyItems are items whose list and bytes have all spare room.
func roomyItems(l []api.Item) []api.Item {
	out := make([]api.Item, len(l), len(l)+3)
	for i, x := range l {
		out[i] = api.Item{Seq: x.Seq, Bytes: roomy(x.Bytes)}
	}
	for i := range 3 {
		out[:cap(out)][len(l)+i] = api.Item{Seq: 99, Bytes: []byte("spare")}
	}
	return out
}

func wholeItems(l []api.Item) []api.Item {
	l = slices.Clone(l[:cap(l)])
	for i, x := range l {
		l[i].Bytes = bytes.Clone(x.Bytes[:cap(x.Bytes)])
	}
	return l
}

func fillItems(l []api.Item) {
	for i, x := range l[:cap(l)] {
		fill(x.Bytes)
		l[:cap(l)][i] = api.Item{Seq: -1, Bytes: []byte("other")}
	}
}

// P12.6: a frame that is handed to Make is not changed, nor its spare room; its bytes are new memory.
func TestMadeBytes(t *testing.T) {
	rnd := rand.New(rand.NewSource(126))
	for range 500 {
		f := roomyFrame(someFrame(rnd))
		before, was := wholeFrame(f), cloneFrame(f)
		b, e := link.Make("k", f)
		if !sameFrame(wholeFrame(f), before) {
			t.Fatal("what was handed in was changed")
		}
		if e != api.OK {
			continue
		}
		other, _ := link.Make("k", f)
		fill(other)
		if !sameFrame(wholeFrame(f), before) {
			t.Fatal("the answer shares memory with what was handed in")
		}
		fillFrame(f)
		if want := slowSeal("k", slowBytes(was)); !bytes.Equal(b, want) {
			t.Fatal("two answers share memory, or one with what was handed in")
		}
	}
}

// P12.6: bytes that are handed to Parse are not changed; the frame is new memory, no two lists of it share any.
func TestParsedFrames(t *testing.T) {
	for _, f := range good() {
		b := roomy(makes(t, "k", f))
		before := bytes.Clone(b[:cap(b)])
		g, e := link.Parse("k", b)
		other, _ := link.Parse("k", b)
		if e != api.OK || !bytes.Equal(b[:cap(b)], before) {
			t.Fatal("what was handed in was changed")
		}
		fill(b)
		if !sameFrame(g, f) {
			t.Fatal("the frame is kept in what was handed in")
		}
		for i := range g.Items {
			fill(g.Items[i])
			if !slices.EqualFunc(g.Items[i+1:], f.Items[i+1:], bytes.Equal) {
				t.Fatal("two items share memory")
			}
		}
		fillFrame(g)
		if !sameFrame(other, f) {
			t.Fatal("two answers share memory")
		}
	}
}

// P12.6: bytes that Parse refuses are not changed either.
func TestRefusedBytes(t *testing.T) {
	for _, b := range [][]byte{nil, {1}, make([]byte, 40), slowSeal("k", []byte("no frame"))} {
		for _, secret := range []string{"k", tooLong} {
			l := roomy(b)
			link.Parse(secret, l)
			if !bytes.Equal(l[:cap(l)], roomy(b)[:cap(roomy(b))]) {
				t.Errorf("%x was changed", b)
			}
		}
	}
}

// P12.6: appending to an item of a parsed frame, of a sent one, or of a received list changes no other.
func TestAppendingToItems(t *testing.T) {
	texts := []string{"", "a", "", "bcd", "", "e"}
	f := frame(1, 1, texts...)
	parsed, _ := link.Parse("k", makes(t, "k", f))
	sent := newSender(t, 6, 6, 1).tick(items(1, texts...))[0]
	var received [][]byte
	for _, x := range newReceiver(t).got(f) {
		received = append(received, x.Bytes)
	}
	for _, l := range [][][]byte{parsed.Items, sent.Items, received} {
		for i := range l {
			l[i] = append(l[i], "......"...)
		}
		for i, s := range texts {
			if string(l[i]) != s+"......" {
				t.Errorf("item %d: %q", i, l[i])
			}
		}
	}
}

// P12.6: lists that are handed to Tick are neither changed nor kept; frames are new memory, no two of them share any.
func TestTickedMemory(t *testing.T) {
	rnd := rand.New(rand.NewSource(127))
	for range 100 {
		s := newSender(t, 1+rnd.Intn(10), 1+rnd.Intn(4), 1+rnd.Intn(3))
		near := 1
		for range 40 {
			l := roomyItems(someQueue(rnd, near))
			before := wholeItems(l)
			want := s.slow.tick(l)
			got := s.link.Tick(l)
			if !sameItems(wholeItems(l), before) {
				t.Fatal("what was handed in was changed")
			}
			fillItems(l)
			if !sameFrames(got, want) {
				t.Fatal("what was handed in is kept")
			}
			for i := range got {
				fillFrame(got[i])
				if !sameFrames(got[i+1:], want[i+1:]) {
					t.Fatal("two frames share memory")
				}
			}
			for i := range got[:cap(got)] {
				got[:cap(got)][i] = api.Frame{Kind: -1}
			}
			near += rnd.Intn(3)
		}
	}
}

// P12.6: what is done to frames changes nothing of what was handed in, either.
func TestTickedItemsStay(t *testing.T) {
	l := roomyItems(numbered(1, 9))
	before := wholeItems(l)
	s := newSender(t, 9, 4, 1)
	for range 3 {
		for _, f := range s.tick(l) {
			fillFrame(f)
			f.Items = append(f.Items, []byte("more"))
		}
		if !sameItems(wholeItems(l), before) {
			t.Fatal("a frame shares memory with what was handed in")
		}
	}
}

// P12.6: a frame that is handed to Got is neither changed nor kept; the items are new memory.
func TestGotMemory(t *testing.T) {
	rnd := rand.New(rand.NewSource(128))
	for range 300 {
		r := newReceiver(t)
		at := 1
		for range 10 {
			f := roomyFrame(frame(at, at+rnd.Intn(2), "a", "", "bcd", "e"))
			before := wholeFrame(f)
			want := r.slow.got(f)
			got, other := r.link.Got(f), r.link.Got(f)
			fillItems(other)
			if !sameFrame(wholeFrame(f), before) {
				t.Fatal("what was handed in was changed, or shares memory with the answer")
			}
			fillFrame(f)
			if !sameItems(got, want) {
				t.Fatal("what was handed in is kept, or two answers share memory")
			}
			for i := range got {
				fill(got[i].Bytes)
				if !sameItems(got[i+1:], want[i+1:]) {
					t.Fatal("two items share memory")
				}
			}
			fillItems(got)
			r.alike()
			r.take(at + rnd.Intn(4))
			at += rnd.Intn(3)
		}
	}
}

// P12.6: what is done to an acknowledgement changes no receiver.
func TestAckMemory(t *testing.T) {
	r := newReceiver(t)
	r.gets(frame(4, 4, "a"), items(4, "a")...)
	f, _ := r.link.Ack()
	f.Seq, f.Items, f.Bytes = 99, append(f.Items, []byte("x")), append(f.Bytes, 'x')
	r.acks(3, true)
}
