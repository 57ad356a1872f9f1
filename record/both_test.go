package record_test

import (
	"fmt"
	"math/rand"
	"slices"
	"testing"

	"farebox/api"
)

// P8.4: what was written is read, and is the record; a tap has 21 bytes.
func TestThereAndBack(t *testing.T) {
	rnd := rand.New(rand.NewSource(5))
	for _, k := range kinds() {
		for range 2000 {
			x := k.some(rnd)
			k.wantGood(t, "any", x)
			b, e := k.write(x)
			got, f := k.read(b)
			if e != api.OK || f != (api.Fault{}) || !isSame(got, x) {
				t.Fatalf("%s: %s is read as %s, %d, %v", k.name, short(x), short(got), e, f)
			}
			if k.name == "a tap" && len(b) != 21 {
				t.Fatalf("%s: %d bytes", short(x), len(b))
			}
		}
	}
}

// P8.2: bytes that end early, at every byte; none at all; one more, whichever it is (P8.5).
func TestCutAndMore(t *testing.T) {
	rnd := rand.New(rand.NewSource(6))
	for _, k := range kinds() {
		k.wantFault(t, "nil", nil, api.ErrWireShort, 0)
		k.wantFault(t, "empty", []byte{}, api.ErrWireShort, 0)
		for range 40 {
			b := k.bytes(k.some(rnd))
			for n := range b {
				if k.wantAsTold(t, fmt.Sprint(n, " bytes"), b[:n]) {
					t.Errorf("%s, %d of %d bytes: read", k.name, n, len(b))
				}
			}
			for n := range 256 {
				k.wantFault(t, fmt.Sprint(n, " behind"), append(anew(b), byte(n)), api.ErrWireMore, len(b))
			}
			k.wantFault(t, "twice", append(anew(b), b...), api.ErrWireMore, len(b))
		}
	}
}

// P8.2: what comes first, where more than one thing is wrong: the pieces as they stand, the end, the record.
func TestWhichFault(t *testing.T) {
	rnd := rand.New(rand.NewSource(7))
	for _, x := range []struct {
		k kind
		x any
		e api.Errno
	}{
		{taps(), api.Tap{Token: "abcdefgh"}, api.ErrRecord}, {deltas(), api.Delta{Add: []string{"bbbbbbbb", "aaaaaaaa"}}, api.ErrRecord}, {entries(), api.Entry{Token: "abcdefgh"}, api.ErrRecord},
		{accounts(), api.Account{Token: "abcdefgh", Paid: 1}, api.ErrRecord}, {outages(), []api.Outage{{}, {}}, api.ErrRecord}, {tariffs(), api.Tariff{Spans: []api.Span{{From: 1, To: 1}}, Off: 2}, api.ErrRate},
	} {
		b := x.k.bytes(x.x)
		x.k.wantFault(t, "wrong", b, x.e, -1)
		x.k.wantFault(t, "wrong, one more", append(anew(b), 0), api.ErrWireMore, len(b))
		x.k.wantFault(t, "wrong, many more", append(anew(b), make([]byte, 1000)...), api.ErrWireMore, len(b))
		s := &slow{given: b}
		x.k.take(s)
		x.k.wantFault(t, "wrong, a byte missing", b[:len(b)-1], api.ErrWireShort, s.starts[len(s.starts)-1])
		good := x.k.bytes(x.k.some(rnd))
		x.k.wantAsTold(t, "wrong, a good one behind", append(anew(b), good...))
	}
}

// others are bytes beside one: the edges, its neighbours, and those with one bit turned.
func others(was byte) []byte {
	l := []byte{0, 1, 2, 3, 4, 127, 128, 254, 255, was + 1, was - 1}
	for bit := range 8 {
		l = append(l, was^1<<bit)
	}
	return l
}

// P8.2, P8.4: good bytes of which each byte is changed.
func TestEachByteChanged(t *testing.T) {
	rnd := rand.New(rand.NewSource(8))
	for _, k := range kinds() {
		read, refused := 0, 0
		for range 8 {
			b := k.bytes(k.some(rnd))
			for at, was := range anew(b) {
				for _, b[at] = range others(was) {
					if k.wantAsTold(t, fmt.Sprint(b[at], " at ", at), b) {
						read++
					} else {
						refused++
					}
				}
				b[at] = was
			}
		}
		if read < 100 || refused < 100 {
			t.Errorf("%s: %d read, %d refused", k.name, read, refused)
		}
	}
}

// spoilt are bytes in which something was changed, cut, put in or taken out.
func spoilt(rnd *rand.Rand, b []byte) []byte {
	b = anew(b)
	for range 1 + rnd.Intn(3) {
		at := rnd.Intn(len(b) + 1)
		switch {
		case rnd.Intn(8) == 0:
			b = slices.Insert(b, at, byte(rnd.Intn(3)))
		case at == len(b):
			b = b[:len(b)-min(len(b), rnd.Intn(2))]
		case rnd.Intn(8) == 0:
			b = slices.Delete(b, at, at+1)
		case rnd.Intn(8) == 0:
			b = b[:at]
		default:
			b[at] = []byte{0, 1, 2, 127, 128, 255, b[at] + 1, b[at] - 1}[rnd.Intn(8)]
		}
	}
	return b
}

// P8.2, P8.4: spoilt bytes, and any.
func TestSpoilt(t *testing.T) {
	rnd := rand.New(rand.NewSource(9))
	for _, k := range kinds() {
		read := 0
		for range 10000 {
			if k.wantAsTold(t, "spoilt", spoilt(rnd, k.bytes(k.some(rnd)))) {
				read++
			}
			b := make([]byte, rnd.Intn(60))
			rnd.Read(b[rnd.Intn(len(b)+1):])
			k.wantAsTold(t, "any", b)
		}
		if read < 300 {
			t.Errorf("%s: only %d were read", k.name, read)
		}
	}
}

// P8.2: bytes of one kind, read as another one.
func TestOfAnotherKind(t *testing.T) {
	rnd := rand.New(rand.NewSource(10))
	for _, of := range kinds() {
		for _, k := range kinds() {
			for range 300 {
				k.wantAsTold(t, "bytes of "+of.name, of.bytes(of.some(rnd)))
			}
		}
	}
}

// P8.5: no two records have the same bytes, nor do those of one begin those of another one.
func TestNoTwoAlike(t *testing.T) {
	rnd := rand.New(rand.NewSource(11))
	for _, k := range kinds() {
		var l [][]byte
		seen := map[string]any{}
		for range 3000 {
			x := k.some(rnd)
			b, _ := k.write(x)
			if other, is := seen[string(b)]; is && !isSame(x, other) {
				t.Fatalf("%s: %s, %s: the same bytes", k.name, short(x), short(other))
			}
			seen[string(b)] = x
			l = append(l, b)
		}
		slices.SortFunc(l, slices.Compare)
		for i := 1; i < len(l); i++ {
			if n := len(l[i-1]); n < len(l[i]) && slices.Equal(l[i-1], l[i][:n]) {
				t.Fatalf("%s: %s begins %s", k.name, short(l[i-1]), short(l[i]))
			}
		}
	}
}

// W2: the same answers again, whatever was asked between.
func TestAgain(t *testing.T) {
	rnd := rand.New(rand.NewSource(12))
	type asked struct {
		k kind
		x any
		b []byte
	}
	var l []asked
	for _, k := range kinds() {
		for range 100 {
			x := k.some(rnd)
			b, _ := k.write(x)
			l = append(l, asked{k, x, b})
		}
	}
	rnd.Shuffle(len(l), func(i, j int) { l[i], l[j] = l[j], l[i] })
	for _, a := range l {
		a.k.wantBytes(t, "again", a.x, a.b)
		a.k.wantRead(t, "again", a.b, a.x, api.Fault{})
	}
}

func FuzzRead(f *testing.F) {
	rnd := rand.New(rand.NewSource(13))
	for i, k := range kinds() {
		for range 5 {
			f.Add(byte(i), k.bytes(k.some(rnd)))
		}
	}
	f.Fuzz(func(t *testing.T, i byte, b []byte) {
		k := kinds()[int(i)%len(kinds())]
		k.wantAsTold(t, "any", b)
	})
}
