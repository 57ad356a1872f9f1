package downlink_test

import (
	"bytes"
	"math"
	"testing"

	"farebox/api"
	"farebox/downlink"
	"farebox/link"
)

// Numbers of nodes go from 1 to MaxDevice, and are unlike; there may be none.
func TestAreNumbers(t *testing.T) {
	for _, l := range [][]int{nil, {1}, {65535}, {2, 1}, {1, 2, 65535, 3}} {
		if !downlink.AreNumbers(l) {
			t.Errorf("%v", l)
		}
	}
	for _, l := range [][]int{{0}, {-1}, {65536}, {math.MinInt}, {math.MaxInt}, {1, 0}, {0, 1}, {1, 65536}, {1, 1}, {1, 2, 1}, {2, 1, 1}, {3, 1, 2, 3}} {
		if downlink.AreNumbers(l) {
			t.Errorf("%v", l)
		}
	}
}

func frame(base, seq int, l ...[]byte) api.Frame {
	return api.Frame{Kind: api.FrameItems, Base: base, Seq: seq, Items: l}
}

// Each end has the secret of its own node, and a receiver of its own, which knows nothing at first.
func TestEnds(t *testing.T) {
	numbers := []int{7, 65535, 1}
	ends := downlink.Ends("k", numbers)
	if len(ends) != 3 {
		t.Fatalf("%d ends", len(ends))
	}
	for _, n := range numbers {
		end := ends[n]
		if _, is := end.Ack(); is {
			t.Errorf("%d knows something", n)
		}
		secret, _ := link.Secret("k", n)
		b, _ := link.Make(secret, frame(n, n, []byte("a"), []byte("b")))
		f, e := end.Parse(b)
		if e != api.OK || len(f.Items) != 2 {
			t.Fatalf("%d: %v, %d", n, f, e)
		}
		for _, other := range numbers {
			if _, e := ends[other].Parse(b); (e == api.OK) != (other == n) {
				t.Errorf("%d has the secret of %d", other, n)
			}
		}
		next := end.Got(f)
		if len(next) != 2 || next[1].Seq != n+1 {
			t.Fatalf("%d: %v", n, next)
		}
		end.Take(next[0].Seq)
		ack, _ := link.Make(secret, api.Frame{Kind: api.FrameAck, Seq: n})
		if l := ends[n].Acknowledge(); len(l) != 1 || !bytes.Equal(l[0], ack) {
			t.Errorf("%d: %x, not %x", n, l, ack)
		}
		have := api.Frame{Kind: api.FrameHave, Seq: 5}
		want, _ := link.Make(secret, have)
		if l := end.Answer(have); len(l) != 1 || !bytes.Equal(l[0], want) {
			t.Errorf("%d: %x, not %x", n, l, want)
		}
	}
}

// Bytes that are no frame of the node, and what was handed in, which is not kept.
func TestParse(t *testing.T) {
	numbers := []int{7, 8}
	ends := downlink.Ends("k", numbers)
	numbers[0] = 9
	if _, is := ends[7]; !is || len(ends) != 2 {
		t.Error("the numbers are kept")
	}
	secret, _ := link.Secret("k", 7)
	b, _ := link.Make(secret, frame(1, 1, nil))
	b[3]++
	if f, e := ends[7].Parse(b); e != api.ErrLinkSeal || f.Kind != 0 {
		t.Errorf("%v, %d", f, e)
	}
	if f, e := ends[7].Parse(nil); e != api.ErrLinkSeal || f.Kind != 0 {
		t.Errorf("%v, %d", f, e)
	}
}
