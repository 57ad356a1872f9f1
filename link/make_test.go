package link_test

import (
	"bytes"
	"math"
	"math/rand"
	"slices"
	"strings"
	"testing"

	"farebox/api"
	"farebox/link"
	"farebox/seal"
)

// longest and tooLong are secrets at the edge.
var (
	longest = strings.Repeat("s", 200)
	tooLong = strings.Repeat("s", 201)
)

// P12.1: each error that seal.Key has, and which of them it is where both would fit.
func TestSecretRefused(t *testing.T) {
	for _, number := range []int{math.MinInt, math.MinInt + 1, -1 << 16, -65535, -2, -1, 65536, 65537, 1 << 16 << 16, math.MaxInt - 1, math.MaxInt} {
		for secret, want := range map[string]api.Errno{"": api.ErrArg, "k": api.ErrArg, longest: api.ErrArg, tooLong: api.ErrLong} {
			if s, e := link.Secret(secret, number); s != "" || e != want {
				t.Errorf("Secret(%d bytes, %d): %q, %d, not %d", len(secret), number, s, e, want)
			}
		}
	}
	for _, number := range []int{0, 1, 7, 1001, 65535} {
		if s, e := link.Secret(tooLong, number); s != "" || e != api.ErrLong {
			t.Errorf("Secret(too long, %d): %q, %d", number, s, e)
		}
	}
}

// P12.1: the key of a node's key and 0; the secrets of nodes are all apart from one another, and from the keys of devices.
func TestSecret(t *testing.T) {
	seen := map[string]int{}
	for _, secret := range []string{"", "k", strings.Repeat("s", 64), strings.Repeat("s", 65), longest} {
		for _, number := range []int{0, 1, 2, 7, 255, 256, 1001, 65534, 65535} {
			s, e := link.Secret(secret, number)
			if want := slowKey(slowKey(secret, number), 0); s != want || e != api.OK {
				t.Errorf("Secret(%d bytes, %d): %x, %d, not %x", len(secret), number, s, e, want)
			}
			own, _ := seal.Key(secret, number)
			if want, _ := seal.Key(own, 0); s != want {
				t.Errorf("Secret(%d bytes, %d): %x, not that of seal", len(secret), number, s)
			}
			seen[s]++
			seen[own]++
		}
	}
	if len(seen) != 5*9*2 {
		t.Errorf("%d of them", len(seen))
	}
}

// makes asks for a frame's bytes, under a secret.
func makes(t *testing.T, secret string, f api.Frame) []byte {
	t.Helper()
	b, e := link.Make(secret, f)
	if want := slowSeal(secret, slowBytes(f)); e != api.OK || !bytes.Equal(b, want) {
		t.Fatalf("Make(%s): %x, %d, not %x", short(f), b, e, want)
	}
	return b
}

// refuses asks for an error with nothing beside it (W3).
func refuses(t *testing.T, f api.Frame) {
	t.Helper()
	for _, secret := range []string{"", "k", longest, tooLong} {
		if b, e := link.Make(secret, f); e != api.ErrArg || len(b) != 0 {
			t.Errorf("Make(%d bytes, %s): %x, %d", len(secret), short(f), b, e)
		}
	}
}

// good are frames that may be, at all edges.
func good() []api.Frame {
	item := strings.Repeat("i", 256)
	l := []api.Frame{
		frame(5, 5, "a", "b"), frame(1, 1, ""), frame(1, 1, "a"), frame(1, 2, "a"), frame(2, 2, "a"),
		frame(1, 1, item), frame(3, 9, "a", item, "", item),
		frame(1, api.MaxCounter, "a"), frame(api.MaxCounter, api.MaxCounter, "a"),
		frame(1, api.MaxCounter-1, "a", "b"), frame(api.MaxCounter-7, api.MaxCounter-7, "1", "2", "3", "4", "5", "6", "7", "8"),
		frame(1, 1<<32-8, slices.Repeat([]string{item}, 8)...),
		{Kind: api.FrameItems, Base: 1, Seq: 1, Items: [][]byte{nil}, Bytes: []byte{}},
	}
	for many := 1; many <= 8; many++ {
		l = append(l, frame(many, 2*many, slices.Repeat([]string{"x"}, many)...))
	}
	for _, seq := range []int{0, 1, 255, 256, 1<<31 - 1, 1 << 31} {
		l = append(l, api.Frame{Kind: api.FrameAck, Seq: seq}, api.Frame{Kind: api.FrameHave, Seq: seq})
	}
	l = append(l, api.Frame{Kind: api.FrameAck, Seq: 1<<31 + 1}, api.Frame{Kind: api.FrameAck, Seq: 1<<32 - 2}, api.Frame{Kind: api.FrameAck, Seq: 1<<32 - 1})
	l = append(l, api.Frame{Kind: api.FrameAck, Items: [][]byte{}, Bytes: []byte{}}, api.Frame{Kind: api.FrameHave, Items: [][]byte{}, Bytes: []byte{}})
	for _, size := range []int{0, 1, 2, 255, 256, 257, 16099, 16100} {
		l = append(l, api.Frame{Kind: api.FrameDelta, Bytes: bytes.Repeat([]byte("d"), size)})
	}
	return append(l, api.Frame{Kind: api.FrameDelta, Items: [][]byte{}})
}

// P12.1: the bytes of frames, as the stage's table tells them.
func TestMakeOfKnownBytes(t *testing.T) {
	for _, x := range []struct {
		f    api.Frame
		want []byte
	}{
		{frame(5, 5, "a", "b"), []byte{1, 0, 0, 0, 0, 0, 0, 0, 5, 0, 0, 0, 0, 0, 0, 0, 5, 0, 2, 0, 1, 97, 0, 1, 98}},
		{frame(258, 65536, "", "cde"), []byte{1, 0, 0, 0, 0, 0, 0, 1, 2, 0, 0, 0, 0, 0, 1, 0, 0, 0, 2, 0, 0, 0, 3, 99, 100, 101}},
		{api.Frame{Kind: 2, Seq: 1<<32 - 1}, []byte{2, 0, 0, 0, 0, 255, 255, 255, 255}},
		{api.Frame{Kind: 3, Seq: 1 << 31}, []byte{3, 0, 0, 0, 0, 128, 0, 0, 0}},
		{api.Frame{Kind: 4, Bytes: []byte{7, 8}}, []byte{4, 0, 2, 7, 8}},
		{api.Frame{Kind: 4}, []byte{4, 0, 0}},
	} {
		if b := makes(t, "k", x.f); !bytes.Equal(b[:len(b)-16], x.want) {
			t.Errorf("Make(%s): %v, not %v", short(x.f), b, x.want)
		}
	}
}

// P12.1, P12.7: frames at all edges, under secrets of each length, both ways.
func TestMakeAndParse(t *testing.T) {
	for _, f := range good() {
		for _, secret := range []string{"", "k", strings.Repeat("s", 64), strings.Repeat("s", 65), longest} {
			b := makes(t, secret, f)
			if g, e := link.Parse(secret, b); e != api.OK || !sameFrame(f, g) {
				t.Errorf("Parse: %s, %d, not %s", short(g), e, short(f))
			}
		}
		if b, e := link.Make(tooLong, f); e != api.ErrLong || len(b) != 0 {
			t.Errorf("Make(too long, %s): %x, %d", short(f), b, e)
		}
	}
}

// P12.1: a kind that there is not, whatever else the frame says.
func TestMakeOfOtherKinds(t *testing.T) {
	for _, kind := range []int{math.MinInt, -256, -3, -1, 0, 5, 6, 255, 256, 257, 258, 1<<32 + 1, math.MaxInt} {
		for _, f := range good() {
			f.Kind = kind
			refuses(t, f)
		}
		refuses(t, api.Frame{Kind: kind})
	}
}

// P12.1: what a kind does not name is zero, field by field.
func TestMakeOfOtherFields(t *testing.T) {
	for _, f := range good() {
		for _, n := range []int{math.MinInt, -1, 1, 2, api.MaxCounter, math.MaxInt} {
			if f.Kind != api.FrameItems {
				other := f
				other.Base = n
				refuses(t, other)
			}
			if f.Kind == api.FrameDelta {
				other := f
				other.Seq = n
				refuses(t, other)
			}
		}
		if f.Kind != api.FrameItems {
			for _, l := range [][][]byte{{nil}, {{}}, {[]byte("a")}, {[]byte("a"), []byte("b")}} {
				other := f
				other.Items = l
				refuses(t, other)
			}
		}
		if f.Kind != api.FrameDelta {
			for _, b := range [][]byte{{0}, []byte("ab")} {
				other := f
				other.Bytes = b
				refuses(t, other)
			}
		}
	}
}

// P12.1: items that are too many, too few or too long, and numbers that may not be.
func TestMakeOfWrongItems(t *testing.T) {
	refuses(t, frame(1, 1))
	refuses(t, frame(api.MaxCounter, api.MaxCounter))
	refuses(t, api.Frame{Kind: api.FrameItems, Base: 1, Seq: 1, Items: [][]byte{}})
	for _, many := range []int{9, 10, 64, 255, 256, 65535, 65536, 65537} {
		refuses(t, frame(1, 1, slices.Repeat([]string{""}, many)...))
	}
	for _, size := range []int{257, 258, 512, 65535, 65536, 1 << 17} {
		long := strings.Repeat("x", size)
		refuses(t, frame(1, 1, long))
		refuses(t, frame(1, 1, long, "a"))
		refuses(t, frame(1, 1, "a", "b", "c", "d", "e", "f", "g", long))
	}
	for _, base := range []int{math.MinInt, -1, 0, 4, 5, api.MaxCounter, api.MaxCounter + 1, math.MaxInt} {
		refuses(t, frame(base, 3, "a", "b"))
	}
	for _, seq := range []int{math.MinInt, -1, 0, 1} {
		refuses(t, frame(2, seq, "a"))
		refuses(t, frame(seq-1, seq, "a"))
	}
	refuses(t, frame(0, 0, "a"))
	refuses(t, frame(-1, -1, "a"))
	for many := 1; many <= 8; many++ {
		l := slices.Repeat([]string{"x"}, many)
		makes(t, "k", frame(1, api.MaxCounter-many+1, l...))
		for _, seq := range []int{api.MaxCounter - many + 2, api.MaxCounter + 1, 1 << 40, math.MaxInt - 7, math.MaxInt - 1, math.MaxInt} {
			refuses(t, frame(1, seq, l...))
			refuses(t, frame(seq, seq, l...))
		}
	}
}

// P12.1: numbers of acknowledgements and versions that may not be; a delta that is too long.
func TestMakeOfWrongNumbers(t *testing.T) {
	for _, kind := range []int{api.FrameAck, api.FrameHave} {
		for _, seq := range []int{math.MinInt, math.MinInt + 1, -1 << 32, -2, -1, api.MaxCounter + 1, 1 << 33, math.MaxInt} {
			refuses(t, api.Frame{Kind: kind, Seq: seq})
		}
	}
	for _, seq := range []int{1<<31 + 1, 1<<31 + 2, 1<<32 - 1} {
		refuses(t, api.Frame{Kind: api.FrameHave, Seq: seq})
	}
	for _, size := range []int{16101, 16102, 65535, 65536, 65537, 1 << 20} {
		refuses(t, api.Frame{Kind: api.FrameDelta, Bytes: make([]byte, size)})
	}
}

// P12.1, P12.7: any frames, mostly such as may be.
func TestMakeOfAnyFrames(t *testing.T) {
	rnd := rand.New(rand.NewSource(121))
	made := 0
	for range 5000 {
		f := someFrame(rnd)
		if !slowMayBe(f) {
			refuses(t, f)
			continue
		}
		made++
		b := makes(t, "secret", f)
		g, e := link.Parse("secret", b)
		if e != api.OK || !sameFrame(f, g) {
			t.Fatalf("Parse: %s, %d, not %s", short(g), e, short(f))
		}
		if again := makes(t, "secret", g); !bytes.Equal(again, b) {
			t.Fatalf("Make of what was parsed: %x, not %x", again, b)
		}
	}
	if made < 2000 || made > 4500 {
		t.Errorf("%d of 5000 may be", made)
	}
}
