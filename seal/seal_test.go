package seal_test

import (
	"bytes"
	"encoding/hex"
	"math/rand"
	"strings"
	"testing"

	"farebox/api"
	"farebox/seal"
)

// slowSeal is P4.3, told as it stands there.
func slowSeal(secret string, b []byte) []byte {
	return append(bytes.Clone(b), slowMac(secret, b)[:16]...)
}

func sealed(t *testing.T, secret string, b []byte) []byte {
	t.Helper()
	s, e := seal.Seal(secret, b)
	if want := slowSeal(secret, b); e != api.OK || !bytes.Equal(s, want) {
		t.Fatalf("Seal of %d bytes under %d: %x, %d, not %x", len(b), len(secret), s, e, want)
	}
	return s
}

// wantRefused asks for an error with nothing beside it (W3).
func wantRefused(t *testing.T, secret string, b []byte, want api.Errno) {
	t.Helper()
	if got, e := seal.Open(secret, b); e != want || len(got) != 0 {
		t.Errorf("Open of %d bytes under %d: %x, %d, not %d", len(b), len(secret), got, e, want)
	}
}

func wantOpened(t *testing.T, secret string, b, want []byte) {
	t.Helper()
	if got, e := seal.Open(secret, b); e != api.OK || !bytes.Equal(got, want) {
		t.Errorf("Open of %d bytes under %d: %x, %d, not %x", len(b), len(secret), got, e, want)
	}
}

// P4.3: the chapter's examples.
func TestSealOfKnownBytes(t *testing.T) {
	s := sealed(t, "key", []byte(fox))
	if string(s[:43]) != fox || hex.EncodeToString(s[43:]) != "f7bc83f430538424b13298e6aa6fb143" {
		t.Errorf("Seal: %x", s)
	}
	wantOpened(t, "key", s, []byte(fox))
	wantRefused(t, "key", s[:58], api.ErrSeal)
	wantRefused(t, "key", s[:15], api.ErrSealShort)
	wantRefused(t, "key", s[44:], api.ErrSealShort)
}

// P4.3, P4.6: bytes of each length, under secrets of each, go both ways; no bytes, as nil too (W5).
func TestBothWays(t *testing.T) {
	rnd := rand.New(rand.NewSource(44))
	for size, secret := range secrets() {
		b := someBytes(rnd, size)
		wantOpened(t, secret, sealed(t, secret, b), b)
		wantOpened(t, secret, sealed(t, secret, nil), nil)
		wantOpened(t, secret, sealed(t, secret, []byte{}), nil)
	}
	b := someBytes(rnd, 1<<20)
	wantOpened(t, "key", sealed(t, "key", b), b)
}

// P4.6: what is sealed may be sealed again, and opened as often.
func TestSealOfSealed(t *testing.T) {
	rows := [][]byte{nil}
	for i := range 20 {
		rows = append(rows, sealed(t, "key", rows[i]))
	}
	for i := 20; i > 0; i-- {
		wantOpened(t, "key", rows[i], rows[i-1])
	}
	wantRefused(t, "key", rows[0], api.ErrSealShort)
}

// P4.3: rows that are too short for a seal, and the shortest that are not.
func TestOpenOfShortRows(t *testing.T) {
	nothing := sealed(t, "key", nil)
	for size := range 16 {
		wantRefused(t, "key", nothing[:size], api.ErrSealShort)
		wantRefused(t, "key", nothing[16-size:], api.ErrSealShort)
		wantRefused(t, "key", make([]byte, size, 100), api.ErrSealShort)
	}
	wantRefused(t, "key", nil, api.ErrSealShort)
	wantOpened(t, "key", nothing, nil)
	wantRefused(t, "key", make([]byte, 16), api.ErrSeal)
	wantRefused(t, "key", make([]byte, 17), api.ErrSeal)
	wantRefused(t, "key", append([]byte{0}, nothing...), api.ErrSeal)
	wantRefused(t, "key", append(bytes.Clone(nothing), 0), api.ErrSeal)
	wantOpened(t, "key", sealed(t, "key", []byte{0}), []byte{0})
}

// P4.3: a secret that is too long is refused first (W4), with whatever bytes, sealed ones too.
func TestSealUnderLongSecrets(t *testing.T) {
	for _, secret := range longSecrets() {
		for _, b := range [][]byte{nil, {}, make([]byte, 15), make([]byte, 16), slowSeal(secret, []byte(fox)), slowSeal(secret, nil)} {
			if got, e := seal.Seal(secret, b); e != api.ErrLong || len(got) != 0 {
				t.Errorf("Seal under %d bytes: %x, %d", len(secret), got, e)
			}
			wantRefused(t, secret, b, api.ErrLong)
		}
	}
}

// P4.6: each byte of a seal, and of what is sealed, is changed into each other one.
func TestOpenOfChangedBytes(t *testing.T) {
	for _, b := range [][]byte{nil, {0}, []byte(fox)} {
		s := sealed(t, "key", b)
		for at := range s {
			for by := 1; by < 256; by++ {
				s[at] ^= byte(by)
				wantRefused(t, "key", s, api.ErrSeal)
				s[at] ^= byte(by)
			}
		}
		wantOpened(t, "key", s, b)
	}
}

// P4.6: two bytes of a seal are changed alike, so that what differs would fall out of a sum or of an xor.
func TestOpenOfSealsChangedTwice(t *testing.T) {
	s := sealed(t, "key", []byte(fox))
	for at := 43; at < 59; at++ {
		for also := 43; also < at; also++ {
			for _, by := range []byte{1, 128, 255} {
				c := bytes.Clone(s)
				c[at] ^= by
				c[also] ^= by
				wantRefused(t, "key", c, api.ErrSeal)
				c = bytes.Clone(s)
				c[at] += by
				c[also] -= by
				wantRefused(t, "key", c, api.ErrSeal)
			}
		}
	}
}

// P4.6: rows cut off at either end, and made longer at either end and at the edge of the seal.
func TestOpenOfCutAndLongerRows(t *testing.T) {
	for _, b := range [][]byte{nil, {0}, make([]byte, 16), []byte(fox)} {
		s := sealed(t, "key", b)
		for size := range len(s) {
			want := api.ErrSeal
			if size < 16 {
				want = api.ErrSealShort
			}
			wantRefused(t, "key", s[:size], want)
			wantRefused(t, "key", s[len(s)-size:], want)
		}
		for _, more := range [][]byte{{0}, {1}, {255}, make([]byte, 16), make([]byte, 64), s} {
			wantRefused(t, "key", bytes.Join([][]byte{s, more}, nil), api.ErrSeal)
			wantRefused(t, "key", bytes.Join([][]byte{more, s}, nil), api.ErrSeal)
			wantRefused(t, "key", bytes.Join([][]byte{s[:len(b)], more, s[len(b):]}, nil), api.ErrSeal)
		}
	}
}

// P4.6: another seal: a whole mac, the end of one, that of other bytes, that under another secret.
func TestOpenOfOtherSeals(t *testing.T) {
	b := []byte(fox)
	mac, other := slowMac("key", b), slowMac("other", b)
	for _, end := range [][]byte{mac, mac[16:], mac[1:17], other[:16], slowMac("key", b[1:])[:16], slowMac("key", nil)[:16], slowMac("", b)[:16], make([]byte, 16)} {
		wantRefused(t, "key", bytes.Join([][]byte{b, end}, nil), api.ErrSeal)
	}
	s := sealed(t, "key", b)
	for _, secret := range []string{"", "ke", "keyy", "Key", "key ", "other", strings.Repeat("key", 60)} {
		wantRefused(t, secret, s, api.ErrSeal)
	}
}

// P4.4: rows of each length up to some are the same as a copy, and are not with one byte changed, or one lacking or more at either end.
func TestSame(t *testing.T) {
	rnd := rand.New(rand.NewSource(45))
	want := func(a, b []byte, is bool) {
		t.Helper()
		if seal.Same(a, b) != is || seal.Same(b, a) != is {
			t.Errorf("Same(%x, %x) is not %v", a, b, is)
		}
	}
	for size := range 70 {
		a := someBytes(rnd, size)
		want(a, a, true)
		want(a, bytes.Clone(a), true)
		for _, c := range []byte{0, 1, 255} {
			want(a, append(bytes.Clone(a), c), false)
			want(a, append([]byte{c}, a...), false)
		}
		for at := range a {
			for bit := range 8 {
				b := bytes.Clone(a)
				b[at] ^= 1 << bit
				want(a, b, false)
			}
		}
	}
}

// P4.4: none, as nil and as empty (W5); rows of noughts that differ in their length alone; two bytes changed alike.
func TestSameAtEdges(t *testing.T) {
	room := []byte{0, 0, 0, 0}
	for _, x := range []struct {
		a, b []byte
		want bool
	}{
		{nil, nil, true}, {nil, []byte{}, true}, {[]byte{}, nil, true}, {[]byte{}, []byte{}, true}, {nil, room[:0], true},
		{nil, []byte{0}, false}, {[]byte{0}, nil, false}, {room[:1], room[:2], false}, {room[:2], room[:1], false}, {room[:3], room[1:], true},
		{make([]byte, 256), nil, false}, {nil, make([]byte, 256), false}, {make([]byte, 257), make([]byte, 1), false},
		{[]byte{1, 2}, []byte{2, 1}, false}, {[]byte{1, 1}, []byte{0, 0}, false}, {[]byte{255, 1}, []byte{0, 0}, false}, {[]byte("ab"), []byte("ac"), false}, {[]byte("ab"), []byte("AB"), false},
	} {
		if got := seal.Same(x.a, x.b); got != x.want {
			t.Errorf("Same(%v, %v): %v", x.a, x.b, got)
		}
	}
}

// answers are what each call that takes bytes, and answers some, says of them under a secret.
func answers(secret string, b []byte) [][]byte {
	var all [][]byte
	for _, call := range []func(string, []byte) ([]byte, api.Errno){seal.Mac, seal.Seal, seal.Open} {
		got, _ := call(secret, b)
		all = append(all, got)
	}
	return all
}

// scratch changes bytes and all the room behind them.
func scratch(b []byte) {
	b = b[:cap(b)]
	for i := range b {
		b[i] ^= 170
	}
}

// P4.5: neither what is handed in nor its spare room is changed.
func TestArgumentsStayAsTheyAre(t *testing.T) {
	rnd := rand.New(rand.NewSource(46))
	for _, secret := range []string{"", "key", strings.Repeat("s", 64), strings.Repeat("s", 65), strings.Repeat("s", 201)} {
		for size := range 64*2 + 2 {
			b := slowSeal(secret, someBytes(rnd, size))
			room := append(bytes.Clone(b), someBytes(rnd, 200)...)
			before := bytes.Clone(room)
			answers(secret, room[:len(b)])
			answers(secret, room[:size])
			seal.Same(room[:size], room[size:])
			seal.Same(room[:size], room[size:2*size])
			if !bytes.Equal(room, before) {
				t.Fatalf("%d bytes under %d were changed", size, len(secret))
			}
		}
	}
}

// P4.5: what is handed in and changed behind the call changes no answer; what is answered and changed by its owner, with its spare room, changes neither what was handed in nor an answer.
func TestAnswersAreNewMemory(t *testing.T) {
	rnd := rand.New(rand.NewSource(47))
	for _, secret := range []string{"", "key", strings.Repeat("s", 64), strings.Repeat("s", 65)} {
		for size := range 64*2 + 2 {
			b := slowSeal(secret, someBytes(rnd, size))
			handed := make([]byte, len(b), len(b)+100)
			copy(handed, b)
			first, second := answers(secret, handed), answers(secret, handed)
			scratch(handed)
			changed := bytes.Clone(handed[:cap(handed)])
			for i, want := range [][]byte{slowMac(secret, b), slowSeal(secret, b), b[:size]} {
				scratch(first[i])
				if !bytes.Equal(second[i], want) {
					t.Fatalf("answer %d of %d bytes under %d: %x, not %x", i, size, len(secret), second[i], want)
				}
			}
			if !bytes.Equal(handed[:cap(handed)], changed) {
				t.Fatalf("an answer shares the %d bytes that were handed in", size)
			}
			wantOpened(t, secret, b, b[:size])
		}
	}
}

// P4.5: nothing is kept: what was asked ahead, refused or not, changes no answer (W2).
func TestNothingIsKept(t *testing.T) {
	s := slowSeal("key", []byte(fox))
	for range 3 {
		wantOpened(t, "key", s, []byte(fox))
		wantRefused(t, "other", s, api.ErrSeal)
		wantRefused(t, "key", s[:15], api.ErrSealShort)
		wantRefused(t, strings.Repeat("s", 201), s, api.ErrLong)
		wantMac(t, "key", nil)
		k, _ := seal.Key("key", 7)
		wantRefused(t, k, s, api.ErrSeal)
		token, _ := seal.Token("key", "1234")
		if k != string(slowMac("key", []byte("device\x00\x07"))) || token != string(slowMac("key", []byte("token1234"))[:8]) {
			t.Errorf("Key, Token: %x, %x", k, token)
		}
	}
}

// P4.6: whatever is opened, its bytes sealed are the row that it was; whatever is sealed is opened.
func FuzzSealed(f *testing.F) {
	f.Add("key", slowSeal("key", []byte(fox)))
	f.Add("", slowSeal("", nil))
	f.Add(strings.Repeat("s", 201), []byte(nil))
	f.Add("key", make([]byte, 15))
	f.Fuzz(func(t *testing.T, secret string, b []byte) {
		opened, e := seal.Open(secret, b)
		want := api.ErrSeal
		switch {
		case len(secret) > 200:
			want = api.ErrLong
		case len(b) < 16:
			want = api.ErrSealShort
		case bytes.Equal(b, slowSeal(secret, b[:len(b)-16])):
			want = api.OK
		}
		if e != want || e != api.OK && len(opened) != 0 {
			t.Fatalf("Open: %x, %d, not %d", opened, e, want)
		}
		if e == api.OK {
			if again, e := seal.Seal(secret, opened); e != api.OK || !bytes.Equal(again, b) {
				t.Fatalf("Seal of what was opened: %x, %d", again, e)
			}
		}
		if len(secret) <= 200 {
			wantOpened(t, secret, sealed(t, secret, b), b)
		}
	})
}
