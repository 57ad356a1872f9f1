package seal_test

import (
	"bytes"
	"crypto/hmac"
	"crypto/sha256"
	"encoding/hex"
	"math"
	"math/rand"
	"strings"
	"testing"

	"farebox/api"
	"farebox/hash"
	"farebox/seal"
)

const fox = "The quick brown fox jumps over the lazy dog"

// slowMac is P4.1, told as it stands there.
func slowMac(secret string, b []byte) []byte {
	pad := []byte(secret)
	if len(pad) > 64 {
		pad = hash.Sum(pad)
	}
	for len(pad) < 64 {
		pad = append(pad, 0)
	}
	var inner, outer []byte
	for _, c := range pad {
		inner = append(inner, c^54)
		outer = append(outer, c^92)
	}
	return hash.Sum(append(outer, hash.Sum(append(inner, b...))...))
}

func someBytes(rnd *rand.Rand, size int) []byte {
	b := make([]byte, size)
	rnd.Read(b)
	return b
}

// secrets are of each length that a secret may have, each of bytes of its own.
func secrets() []string {
	rnd := rand.New(rand.NewSource(1))
	var all []string
	for size := range 200 + 1 {
		all = append(all, string(someBytes(rnd, size)))
	}
	return all
}

// longSecrets are some that no secret may be.
func longSecrets() []string {
	return []string{strings.Repeat("s", 201), strings.Repeat("\x00", 201), strings.Repeat("s", 202), strings.Repeat("s", 256), strings.Repeat("s", 1<<16)}
}

// wantMac holds a mac against the chapter's words and against the library's, which is a second opinion.
func wantMac(t *testing.T, secret string, b []byte) {
	t.Helper()
	got, e := seal.Mac(secret, b)
	if want := slowMac(secret, b); e != api.OK || !bytes.Equal(got, want) {
		t.Errorf("Mac of %d bytes under %d: %x, %d, not %x", len(b), len(secret), got, e, want)
	}
	h := hmac.New(sha256.New, []byte(secret))
	h.Write(b)
	if want := h.Sum(nil); !bytes.Equal(got, want) {
		t.Errorf("Mac of %d bytes under %d: %x, the library says %x", len(b), len(secret), got, want)
	}
}

// P4.1: the chapter's examples.
func TestMacOfKnownBytes(t *testing.T) {
	for _, x := range []struct{ secret, b, want string }{
		{"", "", "b613679a 0814d9ec 772f95d7 78c35fc5 ff1697c4 93715653 c6c71214 4292c5ad"},
		{"key", fox, "f7bc83f4 30538424 b13298e6 aa6fb143 ef4d59a1 49461759 97479dbc 2d1a3cd8"},
	} {
		got, e := seal.Mac(x.secret, []byte(x.b))
		if e != api.OK || hex.EncodeToString(got) != strings.ReplaceAll(x.want, " ", "") {
			t.Errorf("Mac(%q, %q): %x, %d, not %s", x.secret, x.b, got, e, x.want)
		}
	}
}

// P4.1: a secret of each length, so of none, 63, 64, 65, 200 too; no bytes, as nil too (W5), and some.
func TestMacUnderSecretsOfEachLength(t *testing.T) {
	rnd := rand.New(rand.NewSource(41))
	for _, secret := range secrets() {
		wantMac(t, secret, nil)
		wantMac(t, secret, []byte{})
		wantMac(t, secret, make([]byte, 0, 9))
		wantMac(t, secret, someBytes(rnd, 1+rnd.Intn(200)))
	}
}

// P4.1: secrets of one byte over and over, as those are that look like a pad, or like one under a number.
func TestMacUnderEvenSecrets(t *testing.T) {
	for _, size := range []int{0, 1, 31, 32, 33, 63, 64, 65, 199, 200} {
		for _, c := range []byte{0, 1, 54, 92, 54 ^ 92, 127, 128, 255} {
			wantMac(t, string(bytes.Repeat([]byte{c}, size)), []byte("bytes"))
		}
	}
}

// P4.1: bytes of each length of up to some blocks, and of very many.
func TestMacOfEachLength(t *testing.T) {
	rnd := rand.New(rand.NewSource(42))
	for size := range 64*3 + 2 {
		wantMac(t, "key", someBytes(rnd, size))
		wantMac(t, strings.Repeat("k", 65), someBytes(rnd, size))
	}
	wantMac(t, "key", someBytes(rnd, 1<<20))
}

// P4.1: a secret that is too long is refused, with whatever bytes; nothing else is told beside it (W3).
func TestMacUnderLongSecrets(t *testing.T) {
	for _, secret := range longSecrets() {
		for _, b := range [][]byte{nil, {}, {1}, []byte(fox)} {
			if got, e := seal.Mac(secret, b); e != api.ErrLong || len(got) != 0 {
				t.Errorf("Mac under %d bytes: %x, %d", len(secret), got, e)
			}
		}
	}
}

// P4.1: each bit of a secret and of the bytes counts, in secrets that are digested too.
func TestMacHangsOnEachBit(t *testing.T) {
	for _, size := range []int{1, 63, 64, 65, 200} {
		secret, b := bytes.Repeat([]byte{5}, size), []byte(fox)
		seen := map[string]bool{}
		note := func() {
			m, e := seal.Mac(string(secret), b)
			if e != api.OK || seen[string(m)] {
				t.Fatalf("Mac under %d bytes: %x again, %d", size, m, e)
			}
			seen[string(m)] = true
		}
		note()
		for _, row := range [][]byte{secret, b} {
			for bit := range 8 * len(row) {
				row[bit/8] ^= 1 << (bit % 8)
				note()
				row[bit/8] ^= 1 << (bit % 8)
			}
		}
	}
}

// P4.2: the key of every device.
func TestKeyOfEachDevice(t *testing.T) {
	seen := map[string]bool{}
	for device := range api.MaxDevice + 1 {
		k, e := seal.Key("key", device)
		if e != api.OK || len(k) != 32 || seen[k] {
			t.Fatalf("Key(%d): %x, %d", device, k, e)
		}
		seen[k] = true
		if device%97 != 0 && device > 300 && device < api.MaxDevice-300 {
			continue
		}
		b := []byte{'d', 'e', 'v', 'i', 'c', 'e', byte(device / 256), byte(device % 256)}
		if want := slowMac("key", b); k != string(want) {
			t.Errorf("Key(%d): %x, not %x", device, k, want)
		}
	}
}

// P4.2: a key under a secret of each length; a key is a secret in its turn.
func TestKeyUnderSecretsOfEachLength(t *testing.T) {
	for i, secret := range secrets() {
		for device, last := range map[int]string{0: "\x00\x00", 258: "\x01\x02", api.MaxDevice: "\xff\xff", i: "\x00" + string([]byte{byte(i)})} {
			k, e := seal.Key(secret, device)
			if want := slowMac(secret, []byte("device"+last)); e != api.OK || k != string(want) {
				t.Errorf("Key under %d bytes of %d: %x, %d, not %x", len(secret), device, k, e, want)
			}
			wantMac(t, k, []byte(fox))
		}
	}
}

// P4.2: devices that there are not; the length of the secret is told first (W4), and nothing beside an error (W3).
func TestKeyOfNoDevice(t *testing.T) {
	wrong := []int{-1, -2, -256, -65536, api.MaxDevice + 1, api.MaxDevice + 2, 2 * (api.MaxDevice + 1), 1 << 32, math.MinInt, math.MaxInt}
	for _, device := range wrong {
		for _, secret := range []string{"", "key", strings.Repeat("s", 200)} {
			if k, e := seal.Key(secret, device); e != api.ErrArg || k != "" {
				t.Errorf("Key(%d): %x, %d", device, k, e)
			}
		}
	}
	for _, secret := range longSecrets() {
		for _, device := range append(wrong, 0, 1, api.MaxDevice) {
			if k, e := seal.Key(secret, device); e != api.ErrLong || k != "" {
				t.Errorf("Key under %d bytes of %d: %x, %d", len(secret), device, k, e)
			}
		}
	}
}

// P4.2: the token of a card of each length, under secrets of some.
func TestTokenOfEachLength(t *testing.T) {
	rnd := rand.New(rand.NewSource(43))
	for size := 1; size <= 64; size++ {
		for _, secret := range []string{"", "key", strings.Repeat("s", 64), strings.Repeat("s", 65), strings.Repeat("s", 200)} {
			card := string(someBytes(rnd, size))
			got, e := seal.Token(secret, card)
			if want := slowMac(secret, []byte("token"+card))[:8]; e != api.OK || got != string(want) {
				t.Errorf("Token of %d bytes under %d: %x, %d, not %x", size, len(secret), got, e, want)
			}
		}
	}
	for _, secret := range secrets() {
		got, e := seal.Token(secret, "1234")
		if want := slowMac(secret, []byte("token1234"))[:8]; e != api.OK || got != string(want) {
			t.Errorf("Token under %d bytes: %x, %d, not %x", len(secret), got, e, want)
		}
	}
}

// P4.2: cards that there are not; it is bytes that are counted, not letters; the length of the secret is told first (W4), and nothing beside an error (W3).
func TestTokenOfNoCard(t *testing.T) {
	wrong := []string{"", strings.Repeat("1", 65), strings.Repeat("1", 66), strings.Repeat("\u00e9", 33), strings.Repeat("1", 1<<16), strings.Repeat("1", 256+1)}
	for _, card := range wrong {
		for _, secret := range []string{"", "key", strings.Repeat("s", 200)} {
			if got, e := seal.Token(secret, card); e != api.ErrArg || got != "" {
				t.Errorf("Token of %d bytes: %x, %d", len(card), got, e)
			}
		}
	}
	for _, secret := range longSecrets() {
		for _, card := range append(wrong, "1", strings.Repeat("1", 64)) {
			if got, e := seal.Token(secret, card); e != api.ErrLong || got != "" {
				t.Errorf("Token under %d bytes of %d: %x, %d", len(secret), len(card), got, e)
			}
		}
	}
}

// P4.2: cards that differ have tokens that do; a card and a device, even of like bytes, have nothing in common.
func TestTokensDiffer(t *testing.T) {
	seen := map[string]bool{}
	for n := range 3000 {
		card := []byte{byte(n >> 8), byte(n)}
		for size := range 3 {
			got, e := seal.Token("key", string(append(bytes.Clone(card), make([]byte, size)...)))
			if e != api.OK || len(got) != 8 || seen[got] {
				t.Fatalf("Token of %v and %d noughts: %x, %d", card, size, got, e)
			}
			seen[got] = true
		}
		if k, _ := seal.Key("key", n); seen[k[:8]] {
			t.Fatalf("the key of %d begins with a token", n)
		}
	}
}
