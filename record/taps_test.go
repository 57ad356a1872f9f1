package record_test

import (
	"fmt"
	"math"
	"math/rand"
	"slices"
	"strings"
	"testing"

	"farebox/api"
	"farebox/record"
)

// ofTheChapter is the tap of the chapter's examples.
func ofTheChapter() api.Tap {
	return api.Tap{Device: 1, Counter: 2, Token: "abcdefgh", Kind: 1, Place: 258, Time: 5}
}

// far are numbers that fit no piece of a tap, some of them with lower bytes that would do.
func far() []int {
	return []int{-1, -2, -1 << 31, -1 << 32, 1<<32 - 1<<48, math.MinInt, math.MinInt + 1, 1<<32 + 1, 1<<40 + 1, 1<<56 + 1, math.MaxInt, math.MaxInt - 1}
}

// someTokensOfAnyBytes are of the right length.
func someTokensOfAnyBytes() []string {
	l := []string{"abcdefgh", "\x00\x00\x00\x00\x00\x00\x00\x00", "\xff\xff\xff\xff\xff\xff\xff\xff", "\x00\x01\x80\xfe\xff\n\r\t", "        ", "\xc3\xa4\xc3\xb6\xc3\xbc\xe2\x82"}
	for n := range 256 {
		l = append(l, strings.Repeat(string([]byte{byte(n)}), 8))
	}
	return l
}

// notTokens are of another length, some of them with as many runes.
func notTokens() []string {
	return []string{"", "a", "abc", "abcdefg", "abcdefghi", "\x00", "\x00\x00\x00\x00\x00\x00\x00\x00\x00", "äöüäöüäö", strings.Repeat("a", 16), strings.Repeat("a", 264), strings.Repeat("a", 65536+8)}
}

// P8.1, P8.2: the chapter's examples.
func TestTapOfTheChapter(t *testing.T) {
	k := taps()
	b := []byte{0, 1, 0, 0, 0, 2, 97, 98, 99, 100, 101, 102, 103, 104, 1, 1, 2, 0, 0, 0, 5}
	k.wantBytes(t, "as it is", ofTheChapter(), b)
	k.wantRead(t, "as it is", b, ofTheChapter(), api.Fault{})
	for what, turn := range map[string]func(x *api.Tap){
		"Kind 4": func(x *api.Tap) { x.Kind = 4 }, "Counter 0": func(x *api.Tap) { x.Counter = 0 },
		"Token abc": func(x *api.Tap) { x.Token = "abc" }, "Kind 3, Place 1001": func(x *api.Tap) { x.Kind, x.Place = 3, 1001 },
	} {
		x := ofTheChapter()
		turn(&x)
		k.wantWrong(t, what, x, api.ErrRecord, what != "Token abc")
	}
	if api.MaxDevice != 65535 || api.MaxCounter != 1<<32-1 || api.MaxRoutes != 1000 || api.MaxTime != 1<<31 || api.TokenSize != 8 {
		t.Error("limits:", api.MaxDevice, api.MaxCounter, api.MaxRoutes, api.MaxTime, api.TokenSize)
	}
}

// P8.1, P8.2: each number of a tap at its edges and beyond, of each kind.
func TestTapNumbers(t *testing.T) {
	for kind, last := range map[int]int{1: 65535, 2: 65535, 3: 1000} {
		x := ofTheChapter()
		x.Kind = kind
		for _, field := range []struct {
			name           string
			at             *int
			from, to, size int
		}{{"Device", &x.Device, 1, 65535, 2}, {"Counter", &x.Counter, 1, 1<<32 - 1, 4}, {"Place", &x.Place, 1, last, 2}, {"Time", &x.Time, 0, 1 << 31, 4}} {
			before := *field.at
			for _, n := range []int{field.from, field.from + 1, 255, 256, 257, 999, 1000, field.to - 1, field.to} {
				*field.at = n
				taps().wantGood(t, fmt.Sprint("Kind ", kind, ", ", field.name, " ", n), x)
			}
			for _, n := range append(far(), field.from-1, field.to+1, field.to+2, field.to+1000) {
				*field.at = n
				taps().wantWrong(t, fmt.Sprint("Kind ", kind, ", ", field.name, " ", n), x, api.ErrRecord, n >= 0 && n>>(8*field.size) == 0)
			}
			*field.at = before
		}
	}
}

// P8.1, P8.2: the three kinds, and none besides; a ride's routes are fewer than stations.
func TestTapKinds(t *testing.T) {
	x := ofTheChapter()
	for n := 1; n <= 3; n++ {
		x.Kind = n
		taps().wantGood(t, fmt.Sprint("Kind ", n), x)
	}
	for _, n := range append(far(), 0, 4, 5, 6, 7, 254, 255, 256, 257, 258, 259, 65537) {
		x.Kind = n
		taps().wantWrong(t, fmt.Sprint("Kind ", n), x, api.ErrRecord, n >= 0 && n < 256)
	}
	for _, place := range []int{1000, 1001, 1002, 65535} {
		for kind := 1; kind <= 3; kind++ {
			x.Kind, x.Place = kind, place
			if kind == 3 && place > 1000 {
				taps().wantWrong(t, fmt.Sprint("a ride on ", place), x, api.ErrRecord, true)
			} else {
				taps().wantGood(t, fmt.Sprint("Kind ", kind, " at ", place), x)
			}
		}
	}
}

// P8.1: a token is any eight bytes.
func TestTapTokens(t *testing.T) {
	x := ofTheChapter()
	for _, x.Token = range someTokensOfAnyBytes() {
		taps().wantGood(t, fmt.Sprintf("Token %q", x.Token), x)
	}
	for _, x.Token = range notTokens() {
		taps().wantWrong(t, fmt.Sprintf("Token of %d bytes", len(x.Token)), x, api.ErrRecord, false)
	}
}

// P8.1: more than one thing wrong is wrong too; a tap of noughts is none.
func TestTapsOfEdges(t *testing.T) {
	edges := []int{math.MinInt, -1, 0, 1, 3, 4, 1000, 1001, 65535, 65536, 1<<31 - 1, 1 << 31, 1<<31 + 1, 1<<32 - 1, 1 << 32, math.MaxInt}
	rnd := rand.New(rand.NewSource(1))
	edge := func() int { return edges[rnd.Intn(len(edges))] }
	for range 20000 {
		x := api.Tap{Device: edge(), Counter: edge(), Token: "abcdefgh"[rnd.Intn(5)/4:], Kind: edge(), Place: edge(), Time: edge()}
		if tapWrong(x) == api.OK {
			taps().wantGood(t, fmt.Sprint(x), x)
		} else {
			taps().wantWrong(t, fmt.Sprint(x), x, api.ErrRecord, false)
		}
		wantKey(t, x)
	}
	taps().wantWrong(t, "zero", api.Tap{}, api.ErrRecord, false)
	taps().wantWrong(t, "of noughts", api.Tap{Token: "\x00\x00\x00\x00\x00\x00\x00\x00"}, api.ErrRecord, true)
}

// P8.2: bytes that end early, at every byte: the piece that does not end is at fault, where it begins.
func TestTapCut(t *testing.T) {
	begins := []int{0, 0, 2, 2, 2, 2, 6, 6, 6, 6, 6, 6, 6, 6, 14, 15, 15, 17, 17, 17, 17}
	for name, b := range map[string][]byte{"a tap": tapBytes(ofTheChapter()), "noughts": make([]byte, 21), "255": slices.Repeat([]byte{255}, 21)} {
		for n, at := range begins {
			taps().wantFault(t, fmt.Sprint(name, ", ", n, " bytes"), b[:n], api.ErrWireShort, at)
		}
	}
	taps().wantFault(t, "nil", nil, api.ErrWireShort, 0)
}

// slowKey is P8.2's key.
func slowKey(x api.Tap) string {
	return "t" + x.Token + string(wide(x.Time, 4)) + string(wide(x.Device, 2)) + string(wide(x.Counter, 4))
}

func wantKey(t *testing.T, x api.Tap) {
	t.Helper()
	want, wantE := "", tapWrong(x)
	if wantE == api.OK {
		want = slowKey(x)
	}
	if got, e := record.Key(x); got != want || e != wantE {
		t.Errorf("Key(%v): %q, %d, not %q, %d", x, got, e, want, wantE)
	}
}

// P8.2: a key's 19 bytes; what may be no tap has none.
func TestKey(t *testing.T) {
	x := api.Tap{Device: 0x0102, Counter: 0x03040506, Token: "\x00zyxwvu\xff", Kind: 2, Place: 9, Time: 0x0708090a}
	want := []byte{'t', 0, 'z', 'y', 'x', 'w', 'v', 'u', 255, 7, 8, 9, 10, 1, 2, 3, 4, 5, 6}
	if got, e := record.Key(x); e != api.OK || got != string(want) || len(got) != 19 {
		t.Errorf("%q, %d", got, e)
	}
	if got, e := record.Key(ofTheChapter()); e != api.OK || got != "tabcdefgh\x00\x00\x00\x05\x00\x01\x00\x00\x00\x02" {
		t.Errorf("%q, %d", got, e)
	}
	last := api.Tap{Device: 65535, Counter: 1<<32 - 1, Token: "\xff\xff\xff\xff\xff\xff\xff\xff", Kind: 3, Place: 1000, Time: 1 << 31}
	if got, e := record.Key(last); e != api.OK || got != "t\xff\xff\xff\xff\xff\xff\xff\xff\x80\x00\x00\x00\xff\xff\xff\xff\xff\xff" {
		t.Errorf("%q, %d", got, e)
	}
	for _, turn := range []func(x *api.Tap){
		func(x *api.Tap) { x.Device = 0 }, func(x *api.Tap) { x.Device = 65536 }, func(x *api.Tap) { x.Counter = 0 }, func(x *api.Tap) { x.Counter = 1 << 32 },
		func(x *api.Tap) { x.Token = "" }, func(x *api.Tap) { x.Token = "abcdefg" }, func(x *api.Tap) { x.Token = "abcdefghi" }, func(x *api.Tap) { x.Kind = 0 }, func(x *api.Tap) { x.Kind = 4 },
		func(x *api.Tap) { x.Place = 0 }, func(x *api.Tap) { x.Place = 65536 }, func(x *api.Tap) { x.Kind, x.Place = 3, 1001 }, func(x *api.Tap) { x.Time = -1 }, func(x *api.Tap) { x.Time = 1<<31 + 1 }, func(x *api.Tap) { *x = api.Tap{} },
	} {
		x := ofTheChapter()
		turn(&x)
		if got, e := record.Key(x); got != "" || e != api.ErrRecord {
			t.Errorf("Key(%v): %q, %d", x, got, e)
		}
	}
}

// compareTaps is the order in which a token's taps stand.
func compareTaps(a, b api.Tap) int {
	return slices.Compare([]int{a.Time, a.Device, a.Counter}, []int{b.Time, b.Device, b.Counter})
}

// P8.2: of one token keys stand as Time, Device, Counter do; they are the same just if these are.
func TestKeysInOrder(t *testing.T) {
	numbers := []int{1, 2, 127, 128, 255, 256, 257, 32768, 65280, 65535}
	great := append(slices.Clone(numbers), 65536, 1<<24-1, 1<<24, 1<<31-1, 1<<31)
	rnd := rand.New(rand.NewSource(2))
	from := func(l []int) int { return l[rnd.Intn(len(l))] }
	for range 20000 {
		x := api.Tap{Device: from(numbers), Counter: from(great), Token: "abcdefgh", Kind: 1 + rnd.Intn(3), Place: 1 + rnd.Intn(1000), Time: from(great)}
		y := api.Tap{Device: from([]int{x.Device, from(numbers)}), Counter: from([]int{x.Counter, from(great)}), Token: "abcdefgh", Kind: 1 + rnd.Intn(3), Place: 1 + rnd.Intn(1000), Time: from([]int{x.Time, from(great)})}
		wantKey(t, x)
		key, _ := record.Key(x)
		other, _ := record.Key(y)
		if strings.Compare(key, other) != compareTaps(x, y) {
			t.Fatalf("%v, %v: %q, %q", x, y, key, other)
		}
	}
}

// P8.2: a token's keys stand together, whatever the times, by the bytes of tokens.
func TestKeysByTokens(t *testing.T) {
	rnd := rand.New(rand.NewSource(3))
	for range 5000 {
		x, y := someTap(rnd), someTap(rnd)
		key, e := record.Key(x)
		other, f := record.Key(y)
		if e != api.OK || f != api.OK || x.Token != y.Token && strings.Compare(key, other) != strings.Compare(x.Token, y.Token) {
			t.Fatalf("%v, %v: %q, %d, %q, %d", x, y, key, e, other, f)
		}
	}
}
