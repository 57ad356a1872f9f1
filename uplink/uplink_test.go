package uplink_test

import (
	"bytes"
	"fmt"
	"math"
	"slices"
	"testing"

	"farebox/api"
	"farebox/block"
	"farebox/link"
	"farebox/queue"
	"farebox/uplink"
)

func opened(t *testing.T, h *block.Hand, limit int) *uplink.Uplink {
	t.Helper()
	u, err := uplink.Open(h.Disk(), limit, "secret")
	if err != nil {
		t.Fatal(err)
	}
	return u
}

// with is one with a number of items.
func with(t *testing.T, limit, many int) (*block.Hand, *uplink.Uplink) {
	t.Helper()
	h := block.New(queue.Sectors(limit))
	u := opened(t, h, limit)
	if n, err := u.Put(some(1, many)...); n != many || err != nil {
		t.Fatalf("%d, %v", n, err)
	}
	return h, u
}

func some(from, many int) [][]byte {
	var l [][]byte
	for i := range many {
		l = append(l, fmt.Append(nil, "item ", from+i))
	}
	return l
}

// waits holds that just the items from a number on, up to one, wait, however many one asks for.
func waits(t *testing.T, u *uplink.Uplink, first, last int) {
	t.Helper()
	if u.Len() != last-first+1 || u.Last() != last {
		t.Fatalf("Len %d, Last %d, not %d, %d", u.Len(), u.Last(), last-first+1, last)
	}
	for _, most := range []int{math.MinInt, -1, 0, 1, 2, last - first, last - first + 1, last - first + 2, math.MaxInt} {
		l := u.First(most)
		if len(l) != min(max(most, 0), last-first+1) {
			t.Fatalf("First(%d): %v", most, l)
		}
		for i, x := range l {
			if x.Seq != first+i || !bytes.Equal(x.Bytes, some(first+i, 1)[0]) {
				t.Fatalf("First(%d): %v", most, l)
			}
		}
	}
}

// What the queue does not take is left out, and that is no error.
func TestPut(t *testing.T) {
	h, u := with(t, 5, 3)
	for _, x := range []struct{ many, put, last int }{{0, 0, 3}, {1, 1, 4}, {3, 1, 5}, {2, 0, 5}} {
		if n, err := u.Put(some(u.Last()+1, x.many)...); n != x.put || err != nil {
			t.Fatalf("Put of %d: %d, %v", x.many, n, err)
		}
		waits(t, u, 1, x.last)
		if h.Waiting() != 0 {
			t.Error("it is not safe")
		}
		h.Crash(nil)
		u = opened(t, h, 5)
		waits(t, u, 1, x.last)
	}
	if n, err := u.Put(make([]byte, api.MaxItem+1)); n != 0 || api.Number(err) != api.ErrLong {
		t.Errorf("too long: %d, %v", n, err)
	}
	waits(t, u, 1, 5)
}

// Nothing is done where nothing is put, or let go.
func TestWithoutActs(t *testing.T) {
	h, u := with(t, 3, 3)
	if err := u.LetGo(1); err != nil {
		t.Fatal(err)
	}
	u.Put(some(4, 1)...)
	h.Arm(0, false)
	if n, err := u.Put(some(5, 1)...); n != 0 || err != nil {
		t.Errorf("full: %d, %v", n, err)
	}
	if n, err := u.Put(); n != 0 || err != nil {
		t.Errorf("none: %d, %v", n, err)
	}
	if u.LetGo(0) != nil || u.LetGo(1) != nil || api.Number(u.LetGo(5)) != api.ErrArg || api.Number(u.LetGo(-1)) != api.ErrArg {
		t.Error("what lets nothing go")
	}
	u.Tick(0)
	if h.Down() {
		t.Error("there was an act")
	}
	waits(t, u, 2, 4)
}

// What is let go does not come back.
func TestLetGo(t *testing.T) {
	h, u := with(t, 9, 6)
	for n := 1; n <= 6; n++ {
		if err := u.LetGo(n); err != nil {
			t.Fatal(err)
		}
		waits(t, u, n+1, 6)
		h.Crash(nil)
		u = opened(t, h, 9)
		waits(t, u, n+1, 6)
	}
}

// A call whose act is refused is not to be seen, whatever the queue did of it.
func TestFailedCalls(t *testing.T) {
	for acts := range 5 {
		for _, done := range []bool{false, true} {
			h, u := with(t, 9, 4)
			u.LetGo(1)
			h.Arm(acts, done)
			n, err := u.Put(some(5, 4)...)
			if n != 0 || api.Number(err) != api.ErrDown {
				t.Fatalf("act %d: %d, %v", acts, n, err)
			}
			waits(t, u, 2, 4)
		}
	}
	for acts := range 2 {
		for seq := 2; seq <= 4; seq++ {
			h, u := with(t, 9, 4)
			u.LetGo(1)
			h.Arm(acts, acts == 0)
			if err := u.LetGo(seq); api.Number(err) != api.ErrDown {
				t.Fatalf("act %d: %v", acts, err)
			}
			waits(t, u, 2, 4)
			l := u.First(9)
			for i := range l {
				copy(l[i].Bytes, "other")
			}
			waits(t, u, 2, 4)
		}
	}
}

// Frames go up under the link's secret, those of items ahead of the version; what comes down is known by it.
func TestTick(t *testing.T) {
	_, u := with(t, 9, 9)
	for range 2 {
		for tick, want := range [][]int{{1, 4, 5, 4, 77, 0}, {77, 0}, {77, 0}} { // of each frame its number, and how many items it has
			l := u.Tick(77)
			var seqs []int
			for _, x := range l {
				f, e := u.Parse(x)
				other, otherE := link.Parse("secret", x)
				if e != api.OK || otherE != e || f.Kind != other.Kind {
					t.Fatal(e)
				}
				seqs = append(seqs, f.Seq, len(f.Items))
			}
			if !slices.Equal(seqs, want) {
				t.Errorf("tick %d: %v", tick, seqs)
			}
		}
	}
	if l := u.Tick(api.MaxRuns + 1); len(l) != 2 {
		t.Errorf("a version that no frame has: %d frames", len(l))
	}
	if _, e := u.Parse(nil); e != api.ErrLinkSeal {
		t.Error(e)
	}
}

// What is no queue is not opened, by queue.Open's errors.
func TestOpen(t *testing.T) {
	h, _ := with(t, 9, 9)
	for limit, want := range map[int]api.Errno{0: api.ErrArg, 10: api.ErrArg, 8: api.ErrQueue} {
		if u, err := uplink.Open(h.Disk(), limit, "secret"); u != nil || api.Number(err) != want {
			t.Errorf("limit %d: %v", limit, err)
		}
	}
	h.Arm(0, false)
	if u, err := uplink.Open(h.Disk(), 9, "secret"); u != nil || api.Number(err) != api.ErrDown {
		t.Error(err)
	}
}
