package ingest_test

import (
	"bytes"
	"math"
	"math/rand"
	"slices"
	"strings"
	"testing"

	"farebox/api"
	"farebox/block"
)

// P16.2: items that are bad by themselves: too short, no tap, another seal. All are put aside, as they are, in their order.
func TestBadItems(t *testing.T) {
	p := opened(t, plain(), 4000)
	var want [][]byte
	for _, x := range badItems() {
		p.sends(x)
		want = append(want, x)
		p.putAside(want...)
	}
	p.has()
	if n := len(p.slow.keys("")); n != len(want) {
		t.Errorf("%d entries", n)
	}
	p.again()
	p.putAside(want...)
}

// badItems are bad whatever else there is.
func badItems() [][]byte {
	right := tap(1, "a", 100)
	l := [][]byte{nil, {9}, make([]byte, 15), make([]byte, 16), make([]byte, 17), make([]byte, 36), make([]byte, 37), make([]byte, 38), make([]byte, 256), bytes.Repeat([]byte{255}, 37), []byte(strings.Repeat("x", 256))}
	for n := range 22 {
		l = append(l, sealed(right)[:n], sealed(right)[16+n:], slowSeal(slowKey("k", 7), slowTap(right)[:min(n, 20)]))
	}
	for _, x := range noTaps() {
		l = append(l, slowSeal(slowKey("k", x.Device), slowTap(x)))
	}
	l = append(l, slowTap(right), append(sealed(right), 0), append([]byte{0}, sealed(right)...), slowSeal(slowKey("k", 7), append(slowTap(right), 0)), slowSeal(slowKey("k", 7), sealed(right)), slowSeal(slowKey("k", 7), append(slowTap(right), slowTap(right)...)))
	for _, secret := range []string{"", "k", "kk", slowKey("", 7), slowKey("l", 7), slowKey("k", 6), slowKey("k", 8), slowKey("k", 0), slowKey("k", 7<<8), slowSecret("k", 7), slowSecret("k", 20)} {
		l = append(l, slowSeal(secret, slowTap(right)))
	}
	for at := range 37 {
		for _, by := range []byte{1, 128} {
			x := sealed(right)
			x[at] ^= by
			l = append(l, x)
		}
	}
	return l
}

// noTaps are such as may not be, by one field each.
func noTaps() []api.Tap {
	var l []api.Tap
	for _, change := range []func(*api.Tap){
		func(x *api.Tap) { x.Device = 0 },
		func(x *api.Tap) { x.Counter = 0 },
		func(x *api.Tap) { x.Kind = 0 },
		func(x *api.Tap) { x.Kind = 4 },
		func(x *api.Tap) { x.Kind = 255 },
		func(x *api.Tap) { x.Place = 0 },
		func(x *api.Tap) { x.Kind, x.Place = 3, 1001 },
		func(x *api.Tap) { x.Kind, x.Place = 3, 65535 },
		func(x *api.Tap) { x.Time = 1<<31 + 1 },
		func(x *api.Tap) { x.Time = 1<<32 - 1 },
	} {
		x := tap(1, "a", 100)
		change(&x)
		l = append(l, x)
	}
	return l
}

// P16.2: taps at their edges are taken in; their entries stand as the chapter says.
func TestTakenIn(t *testing.T) {
	var l []api.Tap
	for i, change := range []func(*api.Tap){
		func(x *api.Tap) {},
		func(x *api.Tap) { x.Device = 1 },
		func(x *api.Tap) { x.Device = 256 },
		func(x *api.Tap) { x.Device = 65535 },
		func(x *api.Tap) { x.Counter = 1<<32 - 1 },
		func(x *api.Tap) { x.Counter = 1 << 24 },
		func(x *api.Tap) { x.Token = strings.Repeat("\x00", 8) },
		func(x *api.Tap) { x.Token = strings.Repeat("\xff", 8) },
		func(x *api.Tap) { x.Token = "t\x00q\x00x\x00\x00t" },
		func(x *api.Tap) { x.Kind = 2 },
		func(x *api.Tap) { x.Kind, x.Place = 3, 1000 },
		func(x *api.Tap) { x.Kind, x.Place = 3, 1 },
		func(x *api.Tap) { x.Place = 65535 },
		func(x *api.Tap) { x.Place = 1 },
		func(x *api.Tap) { x.Time = 0 },
		func(x *api.Tap) { x.Time = 1 << 31 },
	} {
		x := tap(i+1, "a", 100)
		change(&x)
		l = append(l, x)
	}
	p := opened(t, plain(), 100)
	for _, x := range l {
		p.sends(sealed(x))
		d := p.office.Begin()
		if value, is := d.Get(slowTapKey(x)); !is || value != string(slowTap(x)) {
			t.Errorf("%v: %q, %v", x, value, is)
		}
		if value, is := d.Get(slowCounterKey(x)); !is || value != "" {
			t.Errorf("the counter of %v: %q, %v", x, value, is)
		}
	}
	p.putAside()
	slices.SortFunc(l, func(a, b api.Tap) int { return strings.Compare(slowTapKey(a), slowTapKey(b)) })
	p.has(l...)
	if d := p.office.Begin(); d.Len() != 2*len(l) {
		t.Errorf("%d entries", d.Len())
	}
	p.again()
	p.has(l...)
}

// P16.2: the keys under which the chapter's example stands, byte by byte.
func TestKeys(t *testing.T) {
	x := api.Tap{Device: 0x0102, Counter: 0x03040506, Token: "abcdefgh", Kind: 1, Place: 3, Time: 0x0708090a}
	p := opened(t, plain(), 20)
	p.sends(sealed(x), []byte("bad"))
	want := map[string]string{
		"tabcdefgh\x07\x08\x09\x0a\x01\x02\x03\x04\x05\x06": string(slowTap(x)),
		"x\x01\x02\x03\x04\x05\x06":                         "",
		"q\x00\x00\x00\x00\x00\x00\x00\x01":                 "bad",
	}
	got := entriesOf(p.office.Begin())
	for key, value := range want {
		if v, is := got[key]; !is || v != value {
			t.Errorf("%q: %q, %v", key, v, is)
		}
	}
	if len(got) != len(want) {
		t.Errorf("%q", got)
	}
}

// P16.2: a tap that is there is known: nothing changes, and there is no act. By its key alone: another kind or place does not tell it apart.
func TestKnown(t *testing.T) {
	p := opened(t, two(), 20)
	x := tap(1, "a", 100)
	other, third := x, x
	other.Kind = 2
	third.Place = 4
	p.sends(sealed(x))
	p.hand.Arm(0, false)
	for n := range 9 {
		p.sends(sealed(x), sealed(other), sealed(third))
		p.takes(30, frame(1, n+1, sealed(x)), n+1)
	}
	if p.hand.Down() {
		t.Error("there was an act")
	}
	p.loses()
	p.sends(sealed(x), sealed(other))
	p.has(x)
	p.putAside()
}

// P16.2, P16.6: the counter of a device is known under whichever key: another time or token with it is put aside; that of another device is another one.
func TestCounterTwice(t *testing.T) {
	p := opened(t, two(), 40)
	x := tap(0x01000002, "b", 100)
	p.sends(sealed(x))
	later, earlier, before, behind, full := x, x, x, x, x
	later.Time++
	earlier.Time = 0
	before.Token = "aaaaaaaa"
	behind.Token = "cccccccc"
	full.Token, full.Kind, full.Place, full.Time = "bbbbbbbc", 3, 9, 7
	bad := [][]byte{sealed(later), sealed(earlier), sealed(before), sealed(behind), sealed(full)}
	p.sends(bad...)
	p.has(x)
	p.putAside(bad...)
	p.again()
	p.takes(30, frame(1, 1, sealed(later)), 1)
	p.has(x)
	p.putAside(append(bad, sealed(later))...)
	near := []api.Tap{x, x, x, x}
	near[0].Device = 8
	near[1].Device = 7 << 8
	near[2].Counter++
	near[3].Counter = 2
	for _, x := range near {
		p.sends(sealed(x))
	}
	p.has(near[3], x, near[2], near[0], near[1])
}

// filled are both with so many taps of the token a.
func filled(t *testing.T, n int) *both {
	t.Helper()
	p := opened(t, two(), 1000)
	var l []string
	for i := range n {
		x := tap(i+1, "a", i)
		l = append(l, slowTapKey(x), string(slowTap(x)), slowCounterKey(x), "")
	}
	for part := range slices.Chunk(l, 2000) {
		if e := p.commits(part...); e != api.OK {
			t.Fatal(e)
		}
	}
	return p
}

// P16.2: the last tap that a token may have, and one more; of other tokens there is room; those that are there are known still.
func TestLastTap(t *testing.T) {
	p := filled(t, 1998)
	x, y, z := tap(5001, "a", 9000), tap(5002, "a", 0), tap(5003, "a", 9999)
	p.sends(sealed(x))
	p.sends(sealed(y))
	if n := len(p.office.Taps()); n != 2000 {
		t.Fatalf("%d taps", n)
	}
	p.sends(sealed(z), sealed(y), sealed(x), sealed(tap(1, "a", 0)), sealed(tap(5004, "a", 5)))
	p.putAside(sealed(z), sealed(tap(5004, "a", 5)))
	p.sends(sealed(tap(5003, "b", 1)), sealed(tap(5004, "A", 1)))
	if n := len(p.office.Taps()); n != 2002 {
		t.Fatalf("%d taps", n)
	}
	p.again()
	p.sends(sealed(tap(5005, "a", 5)))
	p.putAside(sealed(z), sealed(tap(5004, "a", 5)), sealed(tap(5005, "a", 5)))
}

// P16.2: likewise in one frame: the first ones fill the token, the others are put aside.
func TestLastTapInOneFrame(t *testing.T) {
	p := filled(t, 1997)
	var l, bad [][]byte
	for i := range 8 {
		x := sealed(tap(6000+i, "a", 9999-i))
		l = append(l, x)
		if i >= 3 {
			bad = append(bad, x)
		}
	}
	p.takes(30, frame(1, 1, l...), 8)
	p.putAside(bad...)
	if n := len(p.office.Taps()); n != 2000 {
		t.Fatalf("%d taps", n)
	}
}

// crowded are both with so many tokens, of which each has a tap.
func crowded(t *testing.T, n int) *both {
	t.Helper()
	p := opened(t, two(), 1000)
	var l []string
	for i := range n {
		x := tap(i+1, "", 50)
		x.Token = numbered(i)
		l = append(l, slowTapKey(x), string(slowTap(x)), slowCounterKey(x), "")
	}
	for part := range slices.Chunk(l, 2000) {
		if e := p.commits(part...); e != api.OK {
			t.Fatal(e)
		}
	}
	return p
}

// P16.2: the last token, and one more; those that are there may have further taps.
func TestLastToken(t *testing.T) {
	p := crowded(t, 998)
	p.sends(sealed(tap(5001, "a", 1)))
	p.sends(sealed(tap(5002, "\x00", 1)))
	p.sends(sealed(tap(5003, "b", 1)), sealed(tap(5004, "a", 2)), sealed(tap(5005, "\xff", 1)), sealed(tap(5006, "\x00", 2)), sealed(tap(5001, "a", 1)))
	p.putAside(sealed(tap(5003, "b", 1)), sealed(tap(5005, "\xff", 1)))
	if n := len(p.office.Taps()); n != 1002 {
		t.Fatalf("%d taps", n)
	}
	p.again()
	x := tap(5007, "", 1)
	x.Token = numbered(500)
	p.sends(sealed(tap(5008, "c", 1)), sealed(x))
	p.putAside(sealed(tap(5003, "b", 1)), sealed(tap(5005, "\xff", 1)), sealed(tap(5008, "c", 1)))
}

// P16.2: likewise in one frame; a token that was put aside has no place.
func TestLastTokenInOneFrame(t *testing.T) {
	p := crowded(t, 998)
	l := [][]byte{sealed(tap(5001, "a", 1)), sealed(tap(5002, "b", 1)), sealed(tap(5003, "c", 1)), sealed(tap(5004, "b", 2)), sealed(tap(5005, "c", 2)), sealed(tap(5006, "d", 2)), sealed(tap(5007, "a", 2))}
	p.takes(30, frame(1, 1, l...), 7)
	p.putAside(l[2], l[4], l[5])
}

// P16.2: what counts are the entries that begin with the letter and the token, whatever follows; what is shorter is no token's.
func TestEntriesThatCount(t *testing.T) {
	p := opened(t, plain(), 1000)
	l := []string{"t", "", "tbbbbbbb", "", "tbbbbbbbb", ""}
	for i := range 1998 {
		l = append(l, "tbbbbbbbb"+numbered(i), "")
	}
	p.commits(l...)
	p.sends(sealed(tap(1, "b", 1)))
	p.sends(sealed(tap(2, "b", 2)))
	p.putAside(sealed(tap(2, "b", 2)))
	p = opened(t, plain(), 1000)
	l = []string{"t", "", "t0000001", "", "t0000000", ""}
	for i := range 999 {
		l = append(l, "t"+numbered(i), "", "t"+numbered(i)+"more", "")
	}
	p.commits(l...)
	p.sends(sealed(tap(1, "b", 1)))
	p.sends(sealed(tap(2, "c", 2)))
	p.putAside(sealed(tap(2, "c", 2)))
	p.has(tap(1, "b", 1))
	p = opened(t, plain(), 1000)
	l = nil
	for i := range 999 {
		l = append(l, "t"+numbered(i), "")
	}
	p.commits(l...)
	p.sends(sealed(tap(1, "b", 1)))
	p.sends(sealed(tap(2, "c", 2)))
	p.putAside(sealed(tap(2, "c", 2)))
}

// P16.2: a token with many taps, far apart, is one token.
func TestTokensWithManyTaps(t *testing.T) {
	p := opened(t, plain(), 1000)
	var l []string
	for i := range 2 * 999 {
		x := tap(i+1, "", i%2<<30)
		x.Device += i % 3
		x.Token = numbered(i / 2)
		l = append(l, slowTapKey(x), string(slowTap(x)))
	}
	p.commits(l...)
	p.sends(sealed(tap(5001, "a", 1)))
	p.sends(sealed(tap(5002, "b", 1)))
	p.putAside(sealed(tap(5002, "b", 1)))
}

// P16.2: tokens of which one stands just behind another do not count for each other, whatever bytes they have.
func TestTokensThatAreNeighbours(t *testing.T) {
	p := opened(t, plain(), 1000)
	tokens := []string{"\x00\x00\x00\x00\x00\x00\x00\x00", "\x00\x00\x00\x00\x00\x00\x00\x01", "aaaaaaa\xff", "aaaaaab\x00", "\xff\xff\xff\xff\xff\xff\xff\xfe", "\xff\xff\xff\xff\xff\xff\xff\xff"}
	var l []string
	for _, token := range tokens {
		for i := range 300 {
			l = append(l, "t"+token+numbered(i), "")
		}
	}
	p.commits(l...)
	for i, token := range tokens {
		x := tap(i+1, "", 1)
		x.Token = token
		p.sends(sealed(x))
	}
	p.putAside()
}

// P16.2: numbers under q go on from the greatest one that there is, behind an Open, too; as far as there are any.
func TestNumbersOfBadItems(t *testing.T) {
	p := opened(t, plain(), 100)
	for n := range 300 {
		p.sends([]byte{byte(n)})
		if n%50 == 0 {
			p.again()
		}
		if n%70 == 0 {
			p.loses()
		}
	}
	if _, is := p.office.Begin().Get("q\x00\x00\x00\x00\x00\x00\x01\x2c"); !is {
		t.Error("there is no number 300")
	}
	for _, last := range []uint64{0, 1, 5, 254, 255, 256, 65535, 1<<32 - 1, 1 << 32, 1<<63 - 1, 1 << 63, math.MaxUint64 - 2} {
		p := opened(t, plain(), 20)
		p.commits(slowBadKey(last/2), "planted, too", slowBadKey(last), "planted", "q", "", "q\xff\xff\xff\xff\xff\xff\xff", "", "q\xff\xff\xff\xff\xff\xff\xff\xff\xff", "")
		p.sends([]byte("a"), []byte("b"))
		for n, want := range map[uint64]string{last + 1: "a", last + 2: "b", last: "planted"} {
			if value, is := p.office.Begin().Get(slowBadKey(n)); !is || value != want {
				t.Errorf("behind %d: %d has %q, %v", last, n, value, is)
			}
		}
		p.again()
	}
}

// W7: where there is no number any more nothing is overwritten, and nothing is acknowledged; what is not bad is taken in still.
func TestBadItemWithoutANumber(t *testing.T) {
	p := opened(t, plain(), 20)
	p.commits(slowBadKey(math.MaxUint64), "the last")
	for range 2 {
		l, err := p.office.Got(20, madeWith(t, p.slow.secret(20), frame(1, 1, sealed(tap(1, "a", 1)), []byte("bad"))))
		if len(l) != 0 || api.Number(err) != api.ErrFull || p.office.Dead() {
			t.Fatalf("%d frames, %v", len(l), err)
		}
		p.alike("no number")
	}
	p.sends(sealed(tap(1, "a", 1)))
	p.has(tap(1, "a", 1))
	p.putAside([]byte("the last"))
}

// P16.2: items of one frame that bear on each other are judged one behind another.
func TestItemsThatBearOnEachOther(t *testing.T) {
	x, y := tap(1, "b", 100), tap(1, "a", 50)
	other := x
	other.Place++
	for _, z := range []struct {
		items []api.Tap
		has   []api.Tap
		bad   []api.Tap
	}{
		{[]api.Tap{x, x}, []api.Tap{x}, nil},
		{[]api.Tap{x, y}, []api.Tap{x}, []api.Tap{y}},
		{[]api.Tap{y, x}, []api.Tap{y}, []api.Tap{x}},
		{[]api.Tap{x, y, x, y}, []api.Tap{x}, []api.Tap{y, y}},
		{[]api.Tap{x, other}, []api.Tap{x}, nil},
		{[]api.Tap{other, x, y}, []api.Tap{other}, []api.Tap{y}},
	} {
		p := opened(t, plain(), 20)
		var l, bad [][]byte
		for _, x := range z.items {
			l = append(l, sealed(x))
		}
		for _, x := range z.bad {
			bad = append(bad, sealed(x))
		}
		p.sends(l...)
		p.has(z.has...)
		p.putAside(bad...)
	}
}

// P16.2, P16.4: all kinds of items mixed in one frame, and what comes of them, in order.
func TestMixedItems(t *testing.T) {
	p := opened(t, plain(), 60)
	p.sends(sealed(tap(9, "m", 500)))
	spoilt := sealed(tap(4, "a", 1))
	spoilt[36]++
	l := [][]byte{[]byte("first"), sealed(tap(2, "z", 7)), sealed(tap(9, "m", 500)), sealed(tap(9, "m", 501)), sealed(tap(1, "z", 7)), spoilt, sealed(tap(3, "b", 900)), nil}
	p.sends(l...)
	p.has(tap(3, "b", 900), tap(9, "m", 500), tap(1, "z", 7), tap(2, "z", 7))
	p.putAside([]byte("first"), sealed(tap(9, "m", 501)), spoilt, nil)
	p.again()
	p.has(tap(3, "b", 900), tap(9, "m", 500), tap(1, "z", 7), tap(2, "z", 7))
	p.putAside([]byte("first"), sealed(tap(9, "m", 501)), spoilt, nil)
}

// P16.4: taps stand in the order of token, time, device, counter; bad items in that in which they came.
func TestOrder(t *testing.T) {
	rnd := rand.New(rand.NewSource(163))
	var want []api.Tap
	for _, token := range []string{"\x00\x00\x00\x00\x00\x00\x00\x00", "aaaaaaaa", "aaaaaaab", "baaaaaaa", "\x80aaaaaaa", "\xff\xff\xff\xff\xff\xff\xff\xff"} {
		for _, time := range []int{0, 255, 256, 65536, 1 << 31} {
			for _, device := range []int{1, 255, 256, 65535} {
				n := len(want)
				want = append(want, api.Tap{Device: device, Counter: 1 + n*n, Token: token, Kind: 1 + n%3, Place: 9, Time: time}, api.Tap{Device: device, Counter: 1<<32 - 1 - n, Token: token, Kind: 1, Place: 9, Time: time})
			}
		}
	}
	p := opened(t, plain(), 200)
	var l, bad [][]byte
	for _, i := range rnd.Perm(len(want)) {
		l = append(l, sealed(want[i]))
		if x := []byte{byte(i)}; i%5 == 0 {
			l, bad = append(l, x), append(bad, x)
		}
	}
	p.sends(l...)
	p.has(want...)
	p.putAside(bad...)
	p.again()
	p.has(want...)
	p.putAside(bad...)
}

// P16.2: any items, mixed at random, do what the slow office does.
func TestAnyItems(t *testing.T) {
	t.Parallel()
	rnd := rand.New(rand.NewSource(164))
	for range 30 {
		p := openedOn(t, block.New(120), newSlow(two(), 120))
		for range 40 {
			var l [][]byte
			for range 1 + rnd.Intn(8) {
				l = append(l, someItem(rnd))
			}
			hub := []int{20, 30}[rnd.Intn(2)]
			seq := max(p.slow.next[hub], 1)
			p.takes(hub, frame(seq, seq, l...), seq+len(l)-1)
		}
		if len(p.office.Taps()) < 10 || len(p.office.Bad()) < 10 {
			t.Fatalf("%d taps, %d bad", len(p.office.Taps()), len(p.office.Bad()))
		}
		p.again()
	}
}

// someItem is one of any kind; few counters, so that they meet.
func someItem(rnd *rand.Rand) []byte {
	x := api.Tap{Device: 1 + rnd.Intn(3), Counter: 1 + rnd.Intn(30), Token: numbered(rnd.Intn(5)), Kind: 1 + rnd.Intn(3), Place: 1 + rnd.Intn(2), Time: rnd.Intn(4)}
	b := sealed(x)
	switch rnd.Intn(10) {
	case 0:
		b[rnd.Intn(len(b))]++
	case 1:
		b = b[:rnd.Intn(len(b))]
	case 2:
		b = make([]byte, rnd.Intn(257))
	case 3:
		x.Device++
		b = slowSeal(slowKey("k", x.Device-1), slowTap(x))
	}
	return b
}
