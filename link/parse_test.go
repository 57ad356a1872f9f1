package link_test

import (
	"bytes"
	"encoding/binary"
	"math/rand"
	"slices"
	"strings"
	"testing"

	"farebox/api"
	"farebox/link"
)

// parseFails asks for an error with nothing beside it (W3).
func parseFails(t *testing.T, secret string, b []byte, want api.Errno) {
	t.Helper()
	if f, e := link.Parse(secret, b); e != want || !isZero(f) {
		t.Errorf("Parse(%d bytes, %.40x): %s, %d, not %d", len(secret), b, short(f), e, want)
	}
}

// noFrame asks for ErrLinkForm: rightly sealed, but no frame.
func noFrame(t *testing.T, b ...byte) {
	t.Helper()
	parseFails(t, "k", slowSeal("k", b), api.ErrLinkForm)
}

// small are frames of each kind whose bytes are few.
func small() []api.Frame {
	return []api.Frame{frame(5, 5, "a", "b"), frame(1, 3, "", "cde", ""), {Kind: api.FrameAck, Seq: 7}, {Kind: api.FrameHave, Seq: 258}, {Kind: api.FrameDelta, Bytes: []byte("delta")}, {Kind: api.FrameDelta}}
}

// P12.1: one byte changed at each place, to every other one; cut short at each place; one byte more, at either end.
func TestParseOfSpoiltBytes(t *testing.T) {
	for _, f := range small() {
		b := makes(t, "k", f)
		for at := range b {
			for by := 1; by < 256; by++ {
				other := bytes.Clone(b)
				other[at] ^= byte(by)
				parseFails(t, "k", other, api.ErrLinkSeal)
			}
			parseFails(t, "k", b[:at], api.ErrLinkSeal)
			parseFails(t, "k", b[at+1:], api.ErrLinkSeal)
			parseFails(t, "k", slices.Delete(bytes.Clone(b), at, at+1), api.ErrLinkSeal)
		}
		for more := range 256 {
			parseFails(t, "k", append(bytes.Clone(b), byte(more)), api.ErrLinkSeal)
			parseFails(t, "k", append([]byte{byte(more)}, b...), api.ErrLinkSeal)
		}
	}
}

// P12.1: another secret; one that is too long, whatever the bytes are.
func TestParseUnderOtherSecrets(t *testing.T) {
	for _, f := range good() {
		b := makes(t, "k", f)
		for _, secret := range []string{"", "K", "k ", "kk", longest} {
			parseFails(t, secret, b, api.ErrLinkSeal)
		}
		parseFails(t, tooLong, b, api.ErrLong)
		parseFails(t, tooLong, slowSeal(tooLong, slowBytes(f)), api.ErrLong)
	}
	for _, b := range [][]byte{nil, {}, {1}, make([]byte, 15), make([]byte, 16), slowSeal("k", nil), slowSeal("k", []byte("no frame"))} {
		parseFails(t, tooLong, b, api.ErrLong)
		parseFails(t, strings.Repeat("s", 1000), b, api.ErrLong)
	}
}

// P12.1: bytes without a right seal, which are no frame's either: it is the seal that is told (W4).
func TestParseOfNothing(t *testing.T) {
	for size := range 40 {
		parseFails(t, "k", make([]byte, size), api.ErrLinkSeal)
		parseFails(t, "k", bytes.Repeat([]byte{4}, size), api.ErrLinkSeal)
	}
	parseFails(t, "k", nil, api.ErrLinkSeal)
	noFrame(t)
}

// P12.1: a frame's bytes cut short at each place, or with more behind them, and sealed.
func TestParseOfSealedPieces(t *testing.T) {
	for _, f := range small() {
		b := slowBytes(f)
		for at := range b {
			noFrame(t, b[:at]...)
			noFrame(t, b[at+1:]...)
		}
		for more := range 256 {
			noFrame(t, append(bytes.Clone(b), byte(more))...)
		}
		noFrame(t, append(bytes.Clone(b), b...)...)
	}
}

// P12.1: a frame's bytes with one of them changed, and sealed: what comes out is what the bytes say, if such a frame may be.
func TestParseOfSealedOthers(t *testing.T) {
	frames := 0
	for _, f := range small() {
		for at, b := 0, slowBytes(f); at < len(b); at++ {
			for by := range 256 {
				other := bytes.Clone(b)
				other[at] = byte(by)
				if parsedRight(t, other) {
					frames++
				}
			}
		}
	}
	if frames < 1000 {
		t.Errorf("only %d of them are frames", frames)
	}
}

// parsedRight holds Parse of bytes that are rightly sealed against the slow one, and tells whether they are a frame's. Make of what it tells are the bytes again (P12.7).
func parsedRight(t *testing.T, b []byte) bool {
	t.Helper()
	want, is := slowRead(b)
	if !is {
		noFrame(t, b...)
		return false
	}
	sealed := slowSeal("k", b)
	f, e := link.Parse("k", sealed)
	if e != api.OK || !sameFrame(f, want) {
		t.Fatalf("Parse of %x: %s, %d, not %s", b, short(f), e, short(want))
	}
	if again := makes(t, "k", f); !bytes.Equal(again, sealed) {
		t.Fatalf("Make of what was parsed: %x, not %x", again, sealed)
	}
	return true
}

// pieces is a frame's bytes, made of what a frame may not say, too.
func pieces(kind byte, numbers ...uint64) []byte {
	b := []byte{kind}
	for _, n := range numbers {
		b = binary.BigEndian.AppendUint64(b, n)
	}
	return b
}

// counted are items' bytes, with any count ahead of them.
func counted(b []byte, count int, l ...string) []byte {
	b = binary.BigEndian.AppendUint16(b, uint16(count))
	for _, s := range l {
		b = append(binary.BigEndian.AppendUint16(b, uint16(len(s))), s...)
	}
	return b
}

// P12.1: forms of frames that may not be, rightly sealed.
func TestParseOfFramesThatMayNotBe(t *testing.T) {
	for kind := range 256 {
		noFrame(t, byte(kind))
		if kind < 1 || kind > 4 {
			noFrame(t, pieces(byte(kind), 1)...)
			noFrame(t, counted(pieces(byte(kind), 1, 1), 1, "a")...)
			noFrame(t, byte(kind), 0, 0)
		}
	}
	nine := slices.Repeat([]string{"x"}, 9)
	for _, b := range [][]byte{
		counted(pieces(1, 1, 1), 0), counted(pieces(1, 1, 1), 9, nine...), counted(pieces(1, 1, 1), 9, nine[:8]...), counted(pieces(1, 1, 1), 8, nine...),
		counted(pieces(1, 1, 1), 1), counted(pieces(1, 1, 1), 2, "a"), counted(pieces(1, 1, 1), 1, "a", "b"),
		counted(pieces(1, 1, 1), 1, strings.Repeat("x", 257)), counted(pieces(1, 1, 1), 2, "a", strings.Repeat("x", 65535)),
		counted(pieces(1, 1, 1), 65535, "a"),
		counted(pieces(1, 0, 1), 1, "a"), counted(pieces(1, 0, 0), 1, "a"), counted(pieces(1, 2, 1), 1, "a"), counted(pieces(1, 1<<63, 1), 1, "a"), counted(pieces(1, 1, 1<<63), 1, "a"), counted(pieces(1, 1<<64-1, 1<<64-1), 1, "a"),
		counted(pieces(1, 1, 1<<32), 1, "a"), counted(pieces(1, 1, 1<<32-1), 2, "a", "b"), counted(pieces(1, 1, 1<<63-1), 1, "a"), counted(pieces(1, 1<<63-1, 1<<63-1), 8, nine[:8]...),
		pieces(2, 1<<32), pieces(2, 1<<63-1), pieces(2, 1<<63), pieces(2, 1<<64-1), pieces(2, 1, 1), pieces(2),
		pieces(3, 1<<31+1), pieces(3, 1<<32), pieces(3, 1<<63-1), pieces(3, 1<<63), pieces(3, 1<<64-1), pieces(3, 0, 0), pieces(3),
		append([]byte{4, 62, 229}, make([]byte, 16101)...), append([]byte{4, 62, 228}, make([]byte, 16099)...), append([]byte{4, 255, 255}, make([]byte, 65535)...), {4}, {4, 0}, {4, 0, 1}, {4, 0, 0, 0},
	} {
		noFrame(t, b...)
		parsedRight(t, b)
	}
}

// P12.7: all that Make makes Parse takes; here of bytes that begin as frames do.
func TestParseOfAnyBytes(t *testing.T) {
	rnd := rand.New(rand.NewSource(122))
	frames := 0
	for range 20000 {
		b := slowBytes(api.Frame{Kind: 1 + rnd.Intn(4), Base: rnd.Intn(3), Seq: rnd.Intn(4), Items: [][]byte{{1}, {2, 3}}[:rnd.Intn(3)], Bytes: []byte{9}})
		for range rnd.Intn(3) {
			b[rnd.Intn(len(b))] = byte(rnd.Intn(5))
		}
		if parsedRight(t, b) {
			frames++
		}
	}
	if frames < 5000 {
		t.Errorf("only %d of them are frames", frames)
	}
}

func FuzzParsed(f *testing.F) {
	for _, x := range small() {
		f.Add(slowBytes(x))
	}
	f.Add([]byte("no frame"))
	f.Fuzz(func(t *testing.T, b []byte) {
		parsedRight(t, b)
		if !bytes.Equal(b, slowSeal("k", b[:max(0, len(b)-16)])) {
			parseFails(t, "k", b, api.ErrLinkSeal)
		}
	})
}
