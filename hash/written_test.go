package hash_test

import (
	"bytes"
	"math/rand"
	"testing"

	"farebox/hash"
)

// wantTaken asks all that can be asked of one that should have taken just these bytes.
func wantTaken(t *testing.T, h *hash.Hash, b []byte) {
	t.Helper()
	if n := h.Len(); n != len(b) {
		t.Errorf("Len: %d, not %d", n, len(b))
	}
	if got, want := h.Sum(), slowSum(b); !bytes.Equal(got, want) {
		t.Errorf("Sum behind %d bytes: %x, not %x", len(b), got, want)
	}
}

func written(pieces ...[]byte) *hash.Hash {
	h := hash.New()
	for _, p := range pieces {
		h.Write(p)
	}
	return h
}

// P3.2: a new one has taken nothing, whatever others took.
func TestNew(t *testing.T) {
	wantTaken(t, hash.New(), nil)
	a, b := hash.New(), hash.New()
	a.Write([]byte("some bytes"))
	wantTaken(t, b, nil)
	wantTaken(t, hash.New(), nil)
	b.Write(bytes.Repeat([]byte("x"), 100))
	wantTaken(t, a, []byte("some bytes"))
	wantTaken(t, hash.New(), nil)
}

// P3.2: bytes of each length, in one piece.
func TestWriteOfEachLength(t *testing.T) {
	rnd := rand.New(rand.NewSource(41))
	for size := range 64*3 + 2 {
		b := someBytes(rnd, size)
		wantTaken(t, written(b), b)
	}
}

// P3.2: writing nothing takes nothing, behind whatever was taken.
func TestWriteOfNothing(t *testing.T) {
	rnd := rand.New(rand.NewSource(42))
	for size := range 64*2 + 2 {
		b := someBytes(rnd, size)
		h := written(nil, b, nil, []byte{}, make([]byte, 0, 70), b[:0])
		wantTaken(t, h, b)
		h.Write([]byte{7})
		wantTaken(t, h, append(bytes.Clone(b), 7))
	}
}

// P3.2: asked twice, Sum tells the same, and neither it nor Len takes anything.
func TestSumAskedTwice(t *testing.T) {
	rnd := rand.New(rand.NewSource(43))
	for size := range 64*2 + 2 {
		b, more := someBytes(rnd, size), someBytes(rnd, rnd.Intn(100))
		h := written(b)
		for range 3 {
			wantTaken(t, h, b)
		}
		h.Write(more)
		wantTaken(t, h, append(bytes.Clone(b), more...))
		wantTaken(t, h, append(bytes.Clone(b), more...))
	}
}

// P3.2: a clone at each length: what either takes behind, the other does not see.
func TestClone(t *testing.T) {
	rnd := rand.New(rand.NewSource(44))
	for size := range 64*2 + 2 {
		b := someBytes(rnd, size)
		for _, wide := range []int{0, 1, 8, 63, 64, 65, 130} {
			mine, its := someBytes(rnd, wide), someBytes(rnd, wide)
			h := written(b)
			c := h.Clone()
			wantTaken(t, c, b)
			h.Write(mine)
			wantTaken(t, c, b)
			wantTaken(t, h, append(bytes.Clone(b), mine...))
			c.Write(its)
			wantTaken(t, h, append(bytes.Clone(b), mine...))
			wantTaken(t, c, append(bytes.Clone(b), its...))
		}
	}
}

// P3.2: the clone is written to first, and its Sum asked.
func TestCloneWrittenToFirst(t *testing.T) {
	rnd := rand.New(rand.NewSource(45))
	for size := range 64*2 + 2 {
		b, its := someBytes(rnd, size), someBytes(rnd, 1+rnd.Intn(100))
		h := written(b)
		c := h.Clone()
		c.Write(its)
		wantTaken(t, h, b)
		wantTaken(t, c, append(bytes.Clone(b), its...))
		h.Write([]byte{1, 2, 3})
		wantTaken(t, c, append(bytes.Clone(b), its...))
		wantTaken(t, h, append(bytes.Clone(b), 1, 2, 3))
	}
}

// P3.2: clones of clones, of new ones too, written to in any order: each of them took its own bytes alone.
func TestClonesOfClones(t *testing.T) {
	rnd := rand.New(rand.NewSource(46))
	for range 20 {
		hs, took := []*hash.Hash{hash.New()}, [][]byte{nil}
		for range 60 {
			i := rnd.Intn(len(hs))
			if rnd.Intn(4) == 0 {
				hs, took = append(hs, hs[i].Clone()), append(took, bytes.Clone(took[i]))
			}
			b := someBytes(rnd, rnd.Intn(90))
			hs[i].Write(b)
			took[i] = append(took[i], b...)
		}
		for i, h := range hs {
			wantTaken(t, h, took[i])
		}
	}
}

// P3.3: neither what is handed in nor its spare room is changed.
func TestArgumentsStayAsTheyAre(t *testing.T) {
	rnd := rand.New(rand.NewSource(47))
	for size := range 64*2 + 2 {
		room := someBytes(rnd, size+200)
		before := bytes.Clone(room)
		b := room[:size]
		hash.Sum(b)
		h := written(b, b[size/2:])
		h.Sum()
		h.Clone().Write(b)
		if !bytes.Equal(room, before) {
			t.Fatalf("%v became %v", before, room)
		}
	}
}

// P3.3: bytes that are changed behind the call were taken as they stood there.
func TestArgumentsAreNotKept(t *testing.T) {
	rnd := rand.New(rand.NewSource(48))
	for size := range 64*2 + 2 {
		b := someBytes(rnd, size)
		took := bytes.Clone(b)
		h := written(b)
		scratch(b)
		wantTaken(t, h, took)
		c := h.Clone()
		h.Write(b)
		took2 := append(bytes.Clone(took), b...)
		scratch(b)
		wantTaken(t, c, took)
		wantTaken(t, h, took2)
	}
}

// scratch writes all over bytes and their spare room.
func scratch(b []byte) {
	all := b[:cap(b)]
	for i := range all {
		all[i] ^= 0x55
	}
}

// P3.3: an answer that its owner changes, its spare room too, changes nothing else: no object, no other answer, no later one.
func TestAnswersAreNewMemory(t *testing.T) {
	rnd := rand.New(rand.NewSource(49))
	for size := range 64*2 + 2 {
		b := someBytes(rnd, size)
		h := written(b)
		c := h.Clone()
		first, second, its, plain := h.Sum(), h.Sum(), c.Sum(), hash.Sum(b)
		scratch(first)
		for _, other := range [][]byte{second, its, plain, hash.Sum(b)} {
			if !bytes.Equal(other, slowSum(b)) {
				t.Fatalf("%d bytes: writing into an answer changed another one", size)
			}
		}
		scratch(second)
		scratch(its)
		scratch(plain)
		wantTaken(t, h, b)
		wantTaken(t, c, b)
		h.Write([]byte("more"))
		wantTaken(t, h, append(bytes.Clone(b), "more"...))
		wantTaken(t, hash.New(), nil)
	}
}

// P3.3: an answer stays what it was, whatever is written behind.
func TestAnswersStayAsTheyAre(t *testing.T) {
	h := hash.New()
	var took []byte
	var answers, wants [][]byte
	for n := range 100 {
		h.Write(make([]byte, n))
		took = append(took, make([]byte, n)...)
		answers, wants = append(answers, h.Sum()), append(wants, slowSum(took))
	}
	for n := range answers {
		if !bytes.Equal(answers[n], wants[n]) {
			t.Errorf("the answer behind %d pieces became %x", n, answers[n])
		}
	}
}

// P3.3: an answer may be handed in again.
func TestAnswersHandedIn(t *testing.T) {
	h := hash.New()
	var took []byte
	for range 20 {
		s := h.Sum()
		h.Write(s)
		took = append(took, s...)
		wantTaken(t, h, took)
	}
}

// P3.4: every cut of some blocks in two, Sum asked at the cut, and not.
func TestTwoPieces(t *testing.T) {
	rnd := rand.New(rand.NewSource(50))
	for _, size := range []int{1, 55, 56, 57, 63, 64, 65, 119, 120, 128, 129, 200} {
		b := someBytes(rnd, size)
		for cut := range size + 1 {
			wantTaken(t, written(b[:cut], b[cut:]), b)
			h := written(b[:cut])
			wantTaken(t, h, b[:cut])
			h.Write(b[cut:])
			wantTaken(t, h, b)
		}
	}
}

// P3.4: pieces of one length each, from a byte at a time on.
func TestPiecesOfOneLength(t *testing.T) {
	b := someBytes(rand.New(rand.NewSource(51)), 400)
	for wide := 1; wide <= 140; wide++ {
		h := hash.New()
		for at := 0; at < len(b); at += wide {
			h.Write(b[at:min(at+wide, len(b))])
		}
		wantTaken(t, h, b)
	}
}

// P3.4: any pieces, Sum asked now and then between.
func TestSomePieces(t *testing.T) {
	rnd := rand.New(rand.NewSource(52))
	for range 200 {
		b := someBytes(rnd, rnd.Intn(1500))
		h := hash.New()
		for at := 0; at < len(b); {
			next := min(at+rnd.Intn(150), len(b))
			h.Write(b[at:next])
			if at = next; rnd.Intn(3) == 0 {
				wantTaken(t, h, b[:at])
			}
		}
		wantTaken(t, h, b)
	}
}

// FuzzPieces: bytes, cut as other bytes say, come to the digest of them all (P3.1, P3.4).
func FuzzPieces(f *testing.F) {
	f.Add([]byte(nil), []byte(nil))
	f.Add([]byte("abc"), []byte{1})
	f.Add(make([]byte, 64), []byte{64, 0})
	f.Add(make([]byte, 200), []byte{55, 1, 8, 64})
	f.Fuzz(func(t *testing.T, b, cuts []byte) {
		h, at := hash.New(), 0
		for _, wide := range cuts {
			next := min(at+int(wide), len(b))
			h.Write(b[at:next])
			at = next
			wantTaken(t, h, b[:at])
		}
		h.Write(b[at:])
		wantTaken(t, h, b)
		wantSum(t, b)
	})
}
