package sum_test

import (
	"bytes"
	"math/rand"
	"testing"

	"farebox/sum"
)

// slowFrame is P2.3, told as it stands there.
func slowFrame(b []byte) []byte {
	s := slowMore(0, b)
	return append(bytes.Clone(b), byte(s%256), byte(s/256%256), byte(s/65536%256), byte(s/16777216))
}

func wantOpen(t *testing.T, frame, want []byte) {
	t.Helper()
	if b, is := sum.Open(frame); !is || !bytes.Equal(b, want) {
		t.Errorf("Open(%v): %v, %v, not %v", frame, b, is, want)
	}
}

func wantNone(t *testing.T, b []byte) {
	t.Helper()
	if x, is := sum.Open(b); is || len(x) != 0 {
		t.Errorf("Open(%v): %v, %v", b, x, is)
	}
}

// P2.3: the chapter's examples.
func TestFrameOfKnownBytes(t *testing.T) {
	f := sum.Frame([]byte("a"))
	if !bytes.Equal(f, []byte{97, 48, 67, 208, 193}) {
		t.Errorf("Frame: %v", f)
	}
	wantOpen(t, f, []byte("a"))
	wantNone(t, f[:4])
	wantNone(t, f[:3])
}

// P2.3: the frame of nothing is four noughts; nothing else of up to four bytes is one.
func TestFrameOfNothing(t *testing.T) {
	for _, b := range [][]byte{nil, {}} {
		f := sum.Frame(b)
		if !bytes.Equal(f, []byte{0, 0, 0, 0}) {
			t.Errorf("Frame: %v", f)
		}
		wantOpen(t, f, nil)
	}
	for size := range 4 {
		wantNone(t, make([]byte, size))
		wantNone(t, bytes.Repeat([]byte{255}, size))
	}
	wantNone(t, nil)
	for at := range 4 {
		for c := 1; c < 256; c++ {
			b := make([]byte, 4)
			b[at] = byte(c)
			wantNone(t, b)
		}
	}
}

// P2.3: any bytes; a frame that lacks a byte at either end, or has one too many, is none.
func TestFrameOfSomeBytes(t *testing.T) {
	rnd := rand.New(rand.NewSource(31))
	for range 300 {
		b := someBytes(rnd, rnd.Intn(80))
		f := sum.Frame(b)
		if !bytes.Equal(f, slowFrame(b)) {
			t.Fatalf("Frame(%v): %v", b, f)
		}
		wantOpen(t, f, b)
		for _, x := range [][]byte{f[:len(f)-1], append(bytes.Clone(f), byte(rnd.Intn(256)))} {
			// Whether those are a frame is the slow way's to say: of short ones they may be.
			if len(x) < 4 || !bytes.Equal(x, slowFrame(x[:len(x)-4])) {
				wantNone(t, x)
			}
		}
	}
}

// P2.3: just one too few, at each length from none to a hundred.
func TestOpenOfOneTooFew(t *testing.T) {
	for size := range 100 {
		b := bytes.Repeat([]byte{'x'}, size)
		f := sum.Frame(b)
		wantNone(t, f[:len(f)-1])
		wantNone(t, f[:len(f)/2])
		wantNone(t, append(bytes.Clone(f), 1))
	}
}

// P2.3: of all orders in which the sum's bytes could stand just the lowest first is taken.
func TestOpenOfOtherOrder(t *testing.T) {
	wantNone(t, []byte{97, 193, 208, 67, 48})
	wantNone(t, []byte{48, 67, 208, 193, 97})
	wantNone(t, []byte{97, 67, 48, 193, 208})
	wantNone(t, []byte{97, 208, 193, 48, 67})
}

// P2.4: neither what is handed in nor its spare room is changed.
func TestArgumentsStayAsTheyAre(t *testing.T) {
	frame := sum.Frame([]byte("some bytes"))
	for _, given := range [][]byte{frame, []byte("some bytes"), {}, frame[:len(frame)-1]} {
		room := append(bytes.Clone(given), "the spare room"...)
		before := bytes.Clone(room)
		b := room[:len(given)]
		sum.Sum(b)
		sum.More(9, b)
		sum.Frame(b)
		sum.Open(b)
		if !bytes.Equal(room, before) {
			t.Errorf("%q became %q", before, room)
		}
	}
}

// P2.4: what is answered shares nothing with what was handed in, its spare room neither.
func TestAnswersAreNewMemory(t *testing.T) {
	for _, body := range []string{"", "a", "some bytes"} {
		room := append([]byte(body), make([]byte, 64)...)
		checkApart(t, room, sum.Frame(room[:len(body)]))

		f := sum.Frame([]byte(body))
		room = append(bytes.Clone(f), make([]byte, 64)...)
		b, _ := sum.Open(room[:len(f)])
		checkApart(t, room, b)
	}
}

// checkApart writes all over an answer, and then all over what was handed in.
func checkApart(t *testing.T, given, answer []byte) {
	t.Helper()
	before := bytes.Clone(given)
	all := answer[:cap(answer)]
	for i := range all {
		all[i] ^= 0x55
	}
	if !bytes.Equal(given, before) {
		t.Errorf("writing into %v changed what was handed in", answer)
	}
	after := bytes.Clone(all)
	for i := range given {
		given[i] ^= 0xaa
	}
	if !bytes.Equal(all, after) {
		t.Errorf("writing into what was handed in changed %v", answer)
	}
}

// P2.4: two answers share nothing either, those of no bytes neither.
func TestAnswersAreApart(t *testing.T) {
	for _, body := range []string{"", "a", "some bytes"} {
		f, g := sum.Frame([]byte(body)), sum.Frame([]byte(body))
		checkApart(t, f, g)
		f = sum.Frame([]byte(body))
		b, _ := sum.Open(f)
		c, _ := sum.Open(f)
		checkApart(t, b[:cap(b)], c)
	}
}

// P2.6: every other byte at every place.
func TestOneByteChanged(t *testing.T) {
	for _, body := range []string{"", "a", "farebox", "\x00\x00\x00\x00\x00", "\xff\xff\xff\xff\xff\xff"} {
		f := sum.Frame([]byte(body))
		for at := range f {
			for change := 1; change < 256; change++ {
				b := bytes.Clone(f)
				b[at] ^= byte(change)
				wantNone(t, b)
			}
		}
	}
}

// P2.6: two to four neighbours changed, at every place, those where the bytes meet their sum too.
func TestNeighboursChanged(t *testing.T) {
	rnd := rand.New(rand.NewSource(36))
	for size := range 24 {
		f := sum.Frame(someBytes(rnd, size))
		for wide := 2; wide <= 4; wide++ {
			for at := 0; at+wide <= len(f); at++ {
				for range 60 {
					b := bytes.Clone(f)
					change(rnd, b[at:at+wide])
					wantNone(t, b)
				}
			}
		}
	}
}

// change makes the first and the last of some bytes other ones, and perhaps those between.
func change(rnd *rand.Rand, b []byte) {
	for i := range b {
		by := rnd.Intn(256)
		if i == 0 || i == len(b)-1 {
			by = 1 + rnd.Intn(255)
		}
		b[i] ^= byte(by)
	}
}

// P2.6: the hardest changes: a bit at either end of four bytes, and what would cancel a turn out.
func TestNeighboursChangedBitByBit(t *testing.T) {
	f := sum.Frame([]byte("from the tap to the charge"))
	for at := 0; at+4 <= len(f); at++ {
		for first := range 32 {
			for last := first; last < 32; last++ {
				b := bytes.Clone(f)
				b[at+first/8] ^= 1 << (first % 8)
				if last != first {
					b[at+last/8] ^= 1 << (last % 8)
				}
				wantNone(t, b)
			}
		}
		for turns := range 32 {
			by := 2197175160
			for range turns {
				by = turn(by)
			}
			b := bytes.Clone(f)
			for i := range 4 {
				b[at+i] ^= byte(by >> (8 * i))
			}
			wantNone(t, b)
		}
	}
}

// P2.7: what Frame made is opened, and what was opened is framed as it was: small ones, and any.
func TestThereAndBack(t *testing.T) {
	rnd := rand.New(rand.NewSource(37))
	for range 500 {
		b := someBytes(rnd, rnd.Intn(300))
		f := sum.Frame(b)
		opened, is := sum.Open(f)
		if !is || !bytes.Equal(opened, b) || !bytes.Equal(sum.Frame(opened), f) {
			t.Errorf("%v came to %v, %v", b, opened, is)
		}
	}
}

// P2.7: frames of frames, too.
func TestFramesOfFrames(t *testing.T) {
	b := []byte("a tap")
	for range 5 {
		f := sum.Frame(b)
		wantOpen(t, f, b)
		b = f
	}
}

// FuzzOpened: any bytes are the frame of what they are opened to, or of nothing (P2.3, P2.7).
func FuzzOpened(f *testing.F) {
	for _, s := range []string{"", "\x00\x00\x00", "\x00\x00\x00\x00", "a0C\xd0\xc1", "0C\xd0\xc1"} {
		f.Add([]byte(s))
	}
	f.Fuzz(func(t *testing.T, b []byte) {
		opened, is := sum.Open(b)
		if is != (len(b) >= 4 && bytes.Equal(slowFrame(b[:max(0, len(b)-4)]), b)) {
			t.Errorf("Open(%v): %v", b, is)
		}
		if is && !bytes.Equal(sum.Frame(opened), b) {
			t.Errorf("Open(%v): %v", b, opened)
		}
		if !is && len(opened) != 0 {
			t.Errorf("Open(%v): %v beside false", b, opened)
		}
	})
}
