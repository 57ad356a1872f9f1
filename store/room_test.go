package store_test

import (
	"fmt"
	"math"
	"testing"

	"farebox/api"
	"farebox/store"
	"farebox/wal"
)

// P11.1: the sectors that the chapter and the issue name.
func TestRoom(t *testing.T) {
	for sectors, want := range map[int]int{
		math.MinInt: -1, math.MinInt + 1: -1, -1048576: -1, -4: -1, -1: -1, 0: -1, 1: -1, 2: -1, 3: -1,
		4: 228, 5: 228, 6: 480, 7: 480, 8: 732, 9: 732, 10: 984, 11: 984, 140: 17364, 400: 50124,
		1048575: 132120048, 1048576: 132120300, 1048577: -1, 1048578: -1, 1 << 40: -1, math.MaxInt - 1: -1, math.MaxInt: -1,
	} {
		if got := store.Room(sectors); got != want {
			t.Errorf("Room(%d): %d, not %d", sectors, got, want)
		}
	}
}

// P11.1: as the chapter reckons it, at many numbers; two sectors more are 252 bytes more.
func TestRoomOfMany(t *testing.T) {
	for sectors := -10; sectors < 5000; sectors++ {
		if got := store.Room(sectors); got != slowRoom(sectors) {
			t.Fatalf("Room(%d): %d, not %d", sectors, got, slowRoom(sectors))
		}
	}
	for sectors := 4; sectors < api.MaxSectors-2; sectors += 977 {
		if more := store.Room(sectors+2) - store.Room(sectors); more != 252 {
			t.Fatalf("Room(%d): %d more", sectors+2, more)
		}
		if 2*store.Room(sectors)+48 != wal.Room(sectors)+12 {
			t.Fatalf("Room(%d) is not half of what a log has", sectors)
		}
	}
}

// P11.5: whatever Room tells can be committed, and taken away again, however often, on every small disk.
func TestRoomIsThere(t *testing.T) {
	for sectors := 4; sectors < 40; sectors++ {
		p := opened(t, sectors)
		for n := range 12 {
			d := p.begin()
			for left, i := store.Room(sectors), 0; left > 0; i++ {
				size := min(left, 9000)
				if left-size < 100 {
					size = left
				}
				left -= size
				d.want(d.put(filling(fmt.Sprint("k", n%3, i), size)), api.OK)
			}
			if d.draft.Size() != store.Room(sectors) {
				t.Fatalf("%d, not %d", d.draft.Size(), store.Room(sectors))
			}
			p.want(p.commit(d), api.OK)
			d = p.begin()
			for _, key := range d.slow.now.keys() {
				d.remove(key)
			}
			p.want(p.commit(d), api.OK)
		}
		p.again()
		p.stands(0)
	}
}
