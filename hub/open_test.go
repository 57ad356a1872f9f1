package hub_test

import (
	"bytes"
	"fmt"
	"math"
	"math/rand"
	"slices"
	"strings"
	"testing"

	"farebox/api"
	"farebox/block"
	"farebox/hub"
	"farebox/queue"
	"farebox/record"
	"farebox/risk"
	"farebox/store"
	"farebox/wal"
)

// P15.1: of each limit the queue's sectors, as chapter 10 says them, and 400; of no other one any.
func TestSectors(t *testing.T) {
	for limit, want := range map[int]int{math.MinInt: 0, -1: 0, 0: 0, 1: 408, 2: 410, 3: 412, 4: 412, 4095: 5282, 4096: 5284, 4097: 0, math.MaxInt: 0} {
		if n := hub.Sectors(limit); n != want {
			t.Errorf("Sectors(%d): %d, not %d", limit, n, want)
		}
	}
	for limit := 1; limit <= 4096; limit++ {
		half := 0
		for 504*half < 300*(limit+4) {
			half++
		}
		if n := hub.Sectors(limit); n != 2+2*half+400 {
			t.Fatalf("Sectors(%d): %d, not %d", limit, n, 2+2*half+400)
		}
	}
}

// entries are those of the store on a hub's disk: a key and a value each. It is looked at in a copy: an Open writes.
func entries(t *testing.T, h *block.Hand, limit int) []string {
	t.Helper()
	s, err := store.Open(storePart(copied(h), limit))
	if err != nil {
		t.Fatal(err)
	}
	var l []string
	for key, value := range s.Begin().All("", "") {
		l = append(l, key, value)
	}
	return l
}

// P15.1: the queue stands in the first sectors, the store in the 400 behind these; what is behind is left alone.
func TestPlaces(t *testing.T) {
	for _, limit := range []int{1, 2, 7} {
		h := block.New(hub.Sectors(limit) + 5)
		for at := range 5 {
			h.Plant(hub.Sectors(limit)+at, bytes.Repeat([]byte{7}, 512))
		}
		p := openedOn(t, h, newSlow(limited(limit)))
		for n := range 60 {
			p.down(ack(n), api.OK)
			p.takes(7, items(1, n+1, strings.Repeat("x", n)), n+1)
			p.down(deltaOf(api.Delta{Version: n + 1, Add: many(40*n, 40), Gone: p.hub.Risk().Tokens}), api.OK)
		}
		for at := range 5 {
			if !bytes.Equal(h.Sector(hub.Sectors(limit)+at), bytes.Repeat([]byte{7}, 512)) {
				t.Errorf("limit %d: the sector %d behind the hub's was written", limit, at)
			}
		}
		q, err := queue.Open(queuePart(h, limit), limit)
		if err != nil || !sameItems(q.Peek(9), p.slow.items) || q.Last() != 60 || q.Len() != 1 {
			t.Errorf("limit %d: the queue: %v", limit, err)
		}
		if l := entries(t, h, limit); !slices.Equal(l, p.slow.entries()) || len(l) != 122 {
			t.Errorf("limit %d: %d entries", limit, len(l)/2)
		}
		p.again()
	}
}

// P15.1: the store's entries, version by version, byte for byte: the list, and each of the deltas.
func TestEntries(t *testing.T) {
	p := opened(t, plain())
	key := func(n byte) string { return "d\x00\x00\x00\x00\x00\x00\x00" + string([]byte{n}) }
	value := func(n byte, rest string) string { return "\x00\x00\x00\x00\x00\x00\x00" + string([]byte{n}) + rest }
	if l := entries(t, p.hand, 2); len(l) != 0 {
		t.Errorf("%q", l)
	}
	p.down(delta(1, "b", ""), api.OK)
	want := []string{key(1), value(1, "\x00\x01bbbbbbbb\x00\x00"), "l", value(1, "\x00\x01bbbbbbbb\x00\x00")}
	if l := entries(t, p.hand, 2); !slices.Equal(l, want) {
		t.Errorf("%q", l)
	}
	p.down(delta(2, "ac", "b"), api.OK)
	want = []string{want[0], want[1], key(2), value(2, "\x00\x02aaaaaaaacccccccc\x00\x01bbbbbbbb"), "l", value(2, "\x00\x02aaaaaaaacccccccc\x00\x00")}
	if l := entries(t, p.hand, 2); !slices.Equal(l, want) {
		t.Errorf("%q", l)
	}
	p.takes(7, items(1, 1, "a", "b"), 2)
	p.down(delta(3, "", "ac"), api.OK)
	want = slices.Concat(want[:4], []string{key(3), value(3, "\x00\x00\x00\x02aaaaaaaacccccccc"), "l", value(3, "\x00\x00\x00\x00")})
	if l := entries(t, p.hand, 2); !slices.Equal(l, want) {
		t.Errorf("%q", l)
	}
	for n := 4; n <= 300; n++ {
		p.down(delta(n, "", ""), api.OK)
	}
	if l := entries(t, p.hand, 2); !slices.Equal(l, p.slow.entries()) || !slices.Contains(l, "d\x00\x00\x00\x00\x00\x00\x01\x2c") {
		t.Errorf("%d entries", len(l)/2)
	}
}

// P15.1: a disk that was made of such entries is a hub's.
func TestOpenOfWrittenEntries(t *testing.T) {
	rnd := rand.New(rand.NewSource(152))
	for _, versions := range []int{0, 1, 2, 3, 10, 300} {
		slow := newSlow(plain())
		for range versions {
			slow.follow(someDelta(rnd, slow.list))
		}
		p := openedOn(t, laid(t, queued(t, 2, 41, "a", "b"), 2, slow.entries()...), &slowHub{setup: plain(), list: slow.list, deltas: slow.deltas, last: 43, items: []api.Item{{Seq: 42, Bytes: []byte("a")}, {Seq: 43, Bytes: []byte("b")}}})
		p.leads(7, 0, readDelta(slow.deltas))
		p.down(deltaOf(someDelta(rnd, slow.list)), api.OK)
		p.down(ack(43), api.OK)
		p.takes(7, items(1, 1, "c"), 1)
		p.loses()
		p.waits(44, "c")
	}
}

// readDelta is the first of some; zero, if there are none.
func readDelta(l [][]byte) api.Delta {
	if len(l) == 0 {
		return api.Delta{}
	}
	d, _ := record.ReadDelta(l[0])
	return d
}

// P15.2: each field of a set-up at its edges.
func TestSetups(t *testing.T) {
	works := func(s api.Hub) {
		t.Helper()
		p := opened(t, s)
		p.down(delta(1, "a", ""), api.OK)
		for i, gate := range s.Gates {
			p.takes(gate, items(1, 1, fmt.Sprint("of ", gate)), min(1, max(0, s.Limit-i)))
			p.leads(gate, 0, deltaWith(1, "a", ""))
		}
		p.tick()
		p.down(ack(p.hub.Len()), api.OK)
		p.again()
	}
	for _, n := range []int{1, 2, 255, 256, 65534, 65535} {
		works(api.Hub{Number: n, Secret: "k", Limit: 1, Gates: []int{n ^ 4}})
		works(api.Hub{Number: n ^ 4, Secret: "k", Limit: 1, Gates: []int{n}})
		works(api.Hub{Number: 3, Secret: "k", Limit: 5, Gates: []int{5, n, n ^ 8, 6}})
	}
	for _, size := range []int{0, 1, 63, 64, 65, 199, 200} {
		works(api.Hub{Number: 1, Secret: strings.Repeat("s", size), Limit: 2, Gates: []int{2, 3}})
	}
	for _, limit := range []int{1, 2, 4095, 4096} {
		works(api.Hub{Number: 1, Secret: "k", Limit: limit, Gates: []int{2, 3}})
	}
	for n := 1; n <= 16; n++ {
		works(api.Hub{Number: 1001, Secret: "k", Limit: 16, Gates: numbers(n)})
	}
}

// numbers are so many gates.
func numbers(n int) []int {
	var l []int
	for i := range n {
		l = append(l, 10*n-i)
	}
	return l
}

// P15.2: a queue takes as many items as the greatest limit says.
func TestGreatestLimit(t *testing.T) {
	p := opened(t, limited(4096))
	for n := 0; n < 4096; n += 8 {
		p.takes(7, items(1, n+1, words(n+1, 8)...), n+8)
	}
	p.takes(7, items(1, 4097, "x"), 4096)
	p.takes(8, items(1, 1, "x"), 0)
	p.waits(1, words(1, 4096)...)
	p.again()
	p.takes(8, items(1, 1, "x"), 0)
	p.down(ack(4095), api.OK)
	p.takes(8, items(1, 1, "x", "y"), 2)
	p.waits(4096, "item 4096", "x", "y")
}

// P15.2: one past each edge, and far off, on any disk: it is not even looked at.
func TestSetupsThatMayNotBe(t *testing.T) {
	wrong := func(change func(*api.Hub)) {
		t.Helper()
		s := plain()
		change(&s)
		small, down, right := block.New(3), block.New(500), block.New(6000)
		down.Arm(0, false)
		down.Disk().Sync()
		right.Arm(0, false)
		for _, h := range []*block.Hand{small, down, right} {
			refused(t, h, s, api.ErrHub)
		}
		if right.Down() {
			t.Error("there was an act")
		}
	}
	far := []int{math.MinInt, -1 << 32, math.MaxInt, 1 << 32}
	for _, n := range append(far, -1, 0, 65536, 65537, 1<<32+1) {
		wrong(func(s *api.Hub) { s.Number = n })
		for at := range 2 {
			wrong(func(s *api.Hub) { s.Gates[at] = n })
		}
		wrong(func(s *api.Hub) { s.Gates = []int{n} })
		wrong(func(s *api.Hub) { s.Gates = append(numbers(15), n) })
	}
	for _, n := range []int{201, 202, 70000} {
		wrong(func(s *api.Hub) { s.Secret = strings.Repeat("s", n) })
	}
	for _, n := range append(far, -1, 0, 4097, 1<<32+1) {
		wrong(func(s *api.Hub) { s.Limit = n })
	}
	wrong(func(s *api.Hub) { s.Gates = nil })
	wrong(func(s *api.Hub) { s.Gates = []int{} })
	for _, n := range []int{17, 18, 70000} {
		wrong(func(s *api.Hub) { s.Number, s.Gates = 9, slices.Repeat(numbers(1), n) })
		wrong(func(s *api.Hub) {
			s.Number, s.Gates = 9, nil
			for i := range n {
				s.Gates = append(s.Gates, 10+i)
			}
		})
	}
	for at := range 16 {
		wrong(func(s *api.Hub) { s.Gates = numbers(16); s.Number = s.Gates[at] })
		for other := range at {
			wrong(func(s *api.Hub) { s.Number, s.Gates = 9, numbers(16); s.Gates[at] = s.Gates[other] })
		}
	}
	wrong(func(s *api.Hub) { s.Gates = []int{20} })
	wrong(func(s *api.Hub) { s.Gates = []int{7, 7} })
	wrong(func(s *api.Hub) { *s = api.Hub{} })
}

// P15.2: a disk with one sector too few, just enough, and more; ErrArg comes ahead of ErrDown.
func TestOpenOfDisks(t *testing.T) {
	for _, limit := range []int{1, 2, 3, 4, 100, 4096} {
		for _, less := range []int{1, 2, 100, 400, 405} {
			h := block.New(hub.Sectors(limit) - less)
			h.Arm(0, false)
			refused(t, h, limited(limit), api.ErrArg)
			if h.Down() {
				t.Error("there was an act")
			}
			h.Disk().Sync()
			refused(t, h, limited(limit), api.ErrArg)
		}
		for _, more := range []int{0, 1, 2, 500} {
			p := openedOn(t, block.New(hub.Sectors(limit)+more), newSlow(limited(limit)))
			p.waits(1)
			p.lists(0)
			p.takes(7, items(1, 1, "a"), 1)
			p.again()
		}
	}
	p := openedOn(t, block.New(api.MaxSectors+1), newSlow(plain()))
	p.takes(7, items(1, 1, "a"), 1)
	p.again()
}

// P15.2: hubs on parts of a disk.
func TestOpenOfAPart(t *testing.T) {
	h := block.New(1500)
	for range 2 {
		for number, from := range map[int]int{1: 0, 2: 410, 3: 1000} {
			x, err := hub.Open(h.Disk().Part(from, 420), api.Hub{Number: number, Secret: "k", Limit: 2, Gates: []int{7}})
			if err != nil {
				t.Fatal(err)
			}
			if x.Len() == 0 {
				x.Got(7, madeWith(t, slowSecret("k", 7), items(1, 1, fmt.Sprint(number))))
			}
			if l := x.Waiting(9); len(l) != 1 || string(l[0].Bytes) != fmt.Sprint(number) {
				t.Errorf("hub %d: %v", number, l)
			}
		}
	}
}

func bytesOf(d api.Delta) string { return string(slowDelta(d)) }

// threeVersions are the entries of a store whose list is of version 3.
func threeVersions() []string {
	s := newSlow(plain())
	s.follow(deltaWith(1, "ac", ""))
	s.follow(deltaWith(2, "b", "c"))
	s.follow(deltaWith(3, "d", ""))
	return s.entries()
}

// noStores are entries that no hub's store has, each with what is wrong.
func noStores() map[string][]string {
	d1, d2, d3, list := threeVersions()[:2], threeVersions()[2:4], threeVersions()[4:6], threeVersions()[6:]
	long := "d\x00\x00\x00\x00\x00\x00\x00"
	as := func(key string, value string) []string { return []string{key, value} }
	l := map[string][]string{
		"deltas, and no list":         slices.Concat(d1, d2, d3),
		"a delta, and no list":        d1,
		"a list, and no deltas":       list,
		"others, and no list":         as("a", "1"),
		"an empty value":              as("a", ""),
		"a longer key":                slices.Concat(d1, d2, d3, as("ll", list[1])),
		"the first one is missing":    slices.Concat(d2, d3, list),
		"the second one is missing":   slices.Concat(d1, d3, list),
		"the last one is missing":     slices.Concat(d1, d2, list),
		"one too many":                slices.Concat(d1, d2, d3, list, as(long+"\x04", bytesOf(deltaWith(4, "e", "")))),
		"one of version 0":            slices.Concat(d1, d2, d3, list, as(long+"\x00", "")),
		"one far off":                 slices.Concat(d1, d2, d3, list, as("d\xff\xff\xff\xff\xff\xff\xff\xff", bytesOf(deltaWith(4, "e", "")))),
		"something else, ahead":       slices.Concat(d1, d2, d3, list, as("a", "")),
		"something else, behind":      slices.Concat(d1, d2, d3, list, as("m", "")),
		"something else, between":     slices.Concat(d1, d2, d3, list, as("d", "")),
		"something else, for one":     slices.Concat(d1, d3, list, as("e", d2[1])),
		"a key of seven bytes":        slices.Concat(d1, d2, list, as(long[:7]+"\x03", d3[1])),
		"a key of nine bytes":         slices.Concat(d1, d2, list, as(long+"\x00\x03", d3[1])),
		"a key turned round":          slices.Concat(d1, d2, list, as("d\x03\x00\x00\x00\x00\x00\x00\x00", d3[1])),
		"two turned round":            slices.Concat(as(d1[0], d2[1]), as(d2[0], d1[1]), d3, list),
		"one twice":                   slices.Concat(d1, as(d2[0], d1[1]), d3, list),
		"an empty delta":              slices.Concat(d1, as(d2[0], ""), d3, list),
		"a delta that is none":        slices.Concat(d1, d2, as(d3[0], "no delta"), list),
		"a delta of one byte less":    slices.Concat(d1, d2, as(d3[0], d3[1][:len(d3[1])-1]), list),
		"a delta of one byte more":    slices.Concat(d1, d2, as(d3[0], d3[1]+"\x00"), list),
		"a delta of another version":  slices.Concat(d1, as(d2[0], bytesOf(deltaWith(3, "b", "c"))), d3, list),
		"a delta of the version 0":    slices.Concat(as(d1[0], bytesOf(deltaWith(0, "ac", ""))), d2, d3, list),
		"tokens that fall in a delta": slices.Concat(as(d1[0], bytesOf(deltaWith(1, "ca", ""))), d2, d3, list),
		"a delta by other tokens":     slices.Concat(d1, d2, as(d3[0], bytesOf(deltaWith(3, "e", ""))), list),
		"a delta that adds what is":   slices.Concat(d1, as(d2[0], bytesOf(deltaWith(2, "ab", "c"))), d3, list),
		"a delta of what is not":      slices.Concat(d1, as(d2[0], bytesOf(deltaWith(2, "b", "cx"))), d3, list),
		"one without tokens":          slices.Concat(as(d1[0], bytesOf(deltaWith(1, "", ""))), d2, d3, list),
	}
	for what, value := range map[string]string{
		"an empty list":             "",
		"a list that is none":       "no list",
		"a list of one byte less":   list[1][:len(list[1])-1],
		"a list of one byte more":   list[1] + "\x00",
		"a list of version 0":       bytesOf(deltaWith(0, "abd", "")),
		"a list of version 2":       bytesOf(deltaWith(2, "abd", "")),
		"a list of version 4":       bytesOf(deltaWith(4, "abd", "")),
		"a list of the last one":    bytesOf(deltaWith(math.MaxInt, "abd", "")),
		"a list below all":          bytesOf(deltaWith(math.MinInt+3, "abd", "")),
		"a list of versions beyond": bytesOf(deltaWith(1<<32+3, "abd", "")),
		"a list with one less":      bytesOf(deltaWith(3, "ab", "")),
		"a list with one more":      bytesOf(deltaWith(3, "abde", "")),
		"a list with another one":   bytesOf(deltaWith(3, "abe", "")),
		"a list without any":        bytesOf(deltaWith(3, "", "")),
		"a list that falls":         bytesOf(deltaWith(3, "bad", "")),
		"a list with one that goes": bytesOf(deltaWith(3, "abd", "c")),
		"a list of what goes":       bytesOf(deltaWith(3, "", "abd")),
		"the last delta for a list": d3[1],
		"a list of too many":        bytesOf(api.Delta{Version: 3, Add: many(0, 1001)}),
	} {
		l[what] = slices.Concat(d1, d2, d3, as("l", value))
		l[what+", alone"] = as("l", value)
	}
	return l
}

// no are disks on which something else than a hub with the limit 2 stands, each with what it is.
func no(t *testing.T) map[string]*block.Hand {
	t.Helper()
	l := map[string]*block.Hand{}
	for what, x := range noStores() {
		l["the store: "+what] = laid(t, queued(t, 2, 0, "a"), 2, x...)
	}
	l["no queue, the store: a list alone"] = laid(t, block.New(hub.Sectors(2)), 2, noStores()["a list, and no deltas"]...)
	l["too many tokens at a time"] = laid(t, block.New(hub.Sectors(2)), 2, tooLong()...)
	more := queued(t, 3, 0, "a", "b", "c")
	l["more items"] = block.New(hub.Sectors(2))
	log, _, _ := wal.Open(queuePart(l["more items"], 2))
	_, records, _ := wal.Open(queuePart(more, 3))
	if err := log.Rewrite(records); err != nil {
		t.Fatal(err)
	}
	for what, part := range map[string]func(*block.Hand, int) *block.Disk{"the queue": queuePart, "the store": storePart} {
		h := laid(t, queued(t, 2, 0, "a"), 2, threeVersions()...)
		log, _, _ := wal.Open(part(h, 2))
		if err := log.Rewrite([][]byte{[]byte("a log")}); err != nil {
			t.Fatal(err)
		}
		l[what+": another log"] = h
	}
	h := queued(t, 2, 0, "a")
	q, _ := queue.Open(storePart(h, 2), 2)
	q.Put([]byte("a"))
	q.Sync()
	l["the store: a queue"] = h
	h = block.New(hub.Sectors(2))
	s, _ := store.Open(queuePart(h, 2))
	d := s.Begin()
	d.Put("l", "1")
	s.Commit(d)
	l["the queue: a store"] = h
	return l
}

// tooLong are entries of versions of which one has more tokens than a list may have, though the last one has not.
func tooLong() []string {
	s := &slowHub{list: api.RiskList{Version: 3, Tokens: many(0, 1000)}}
	for _, d := range []api.Delta{{Version: 1, Add: many(0, 1000)}, {Version: 2, Add: many(5000, 1)}, {Version: 3, Gone: many(5000, 1)}} {
		s.deltas = append(s.deltas, slowDelta(d))
	}
	return s.entries()
}

// P15.2: something else stands on the disk: it is refused, and stays; where the power goes meanwhile it is ErrDown.
func TestOpenOfOtherThings(t *testing.T) {
	t.Parallel()
	for what, h := range no(t) {
		for _, part := range []func(*block.Hand, int) *block.Disk{queuePart, storePart} {
			_, before, _ := wal.Open(part(h, 2))
			for range 3 {
				if x, err := hub.Open(h.Disk(), plain()); x != nil || api.Number(err) != api.ErrHub {
					t.Errorf("%s: %v, %v", what, x, err)
				}
			}
			if _, after, _ := wal.Open(part(h, 2)); !slices.EqualFunc(before, after, bytes.Equal) {
				t.Errorf("%s: it was changed", what)
			}
		}
		for acts := 0; ; acts++ {
			h := copied(h)
			h.Arm(acts, acts%2 == 0)
			_, err := hub.Open(h.Disk(), plain())
			if !h.Down() {
				break
			}
			if api.Number(err) != api.ErrDown {
				t.Errorf("%s: the power goes at act %d: %v", what, acts, err)
			}
			h.Crash(slices.Repeat([]bool{acts%3 == 0}, h.Waiting()))
			refused(t, h, plain(), api.ErrHub)
		}
		h.Arm(0, false)
		h.Disk().Sync()
		refused(t, h, plain(), api.ErrDown)
	}
}

// P15.2: a hub's disk says nothing of its number, its secret and its gates: with others it is the same hub; with a smaller limit than it has items it is none.
func TestOpenWithAnotherSetup(t *testing.T) {
	p := opened(t, limited(3))
	p.down(delta(1, "b", ""), api.OK)
	p.takes(7, items(1, 1, "a"), 1)
	for _, s := range []api.Hub{{Number: 20, Secret: "k", Limit: 4, Gates: []int{7, 8}}, {Number: 21, Secret: "other", Limit: 4, Gates: []int{20}}, {Number: 7, Limit: 3, Gates: []int{1, 2, 3, 4}}, limited(4)} {
		p.slow.setup = s
		p.again()
		p.waits(1, "a")
		p.lists(1, tokens("b")...)
		p.leads(s.Gates[0], 0, deltaWith(1, "b", ""))
		p.refusesBytes(9, nil, api.ErrHubGate)
	}
	p.takes(7, items(2, 2, "b", "c", "d"), 4)
	refused(t, p.hand, limited(3), api.ErrHub)
	p.again()
	p.down(ack(1), api.OK)
	p.slow.setup = limited(3)
	p.again()
	p.waits(2, "b", "c", "d")
}

// P15.2: without a log there is a hub without items, of version 0, whatever bytes stand there; one that was opened, and to which nothing was done, is one, too.
func TestOpenWithoutAHub(t *testing.T) {
	rnd := rand.New(rand.NewSource(153))
	for i := range 20 {
		h := block.New(hub.Sectors(2))
		for at := range hub.Sectors(2) {
			x := bytes.Repeat([]byte{byte(i)}, 512)
			if i%2 == 0 {
				rnd.Read(x)
			}
			h.Plant(at, x)
		}
		p := openedOn(t, h, newSlow(plain()))
		p.waits(1)
		p.lists(0)
		p.again()
		p.loses()
		p.takes(7, items(1, 1, "a"), 1)
		p.down(delta(1, "b", ""), api.OK)
		p.again()
		p.waits(1, "a")
		p.lists(1, tokens("b")...)
	}
}

// P15.2: what is damaged on a hub's disk, in any sector: Open ends, and what it tells is what was there, its beginning, or nothing.
func TestOpenOfDamagedDisks(t *testing.T) {
	rnd := rand.New(rand.NewSource(154))
	p := opened(t, limited(9))
	lists := []api.RiskList{{}}
	for n := range 9 {
		p.takes(7, items(1, n+1, words(n, 1)...), n+1)
		p.down(deltaOf(api.Delta{Version: n + 1, Add: many(10*n, 10)}), api.OK)
		lists = append(lists, p.hub.Risk())
	}
	for range 300 {
		h := copied(p.hand)
		for range 1 + rnd.Intn(2) {
			at := rnd.Intn(60)
			x := h.Sector(at)
			x[rnd.Intn(512)] ^= byte(1 + rnd.Intn(255))
			h.Plant(at, x)
		}
		x, err := hub.Open(h.Disk(), limited(9))
		if e := api.Number(err); e != api.OK && e != api.ErrHub {
			t.Fatalf("Open: %v", err)
		}
		if err == nil && (!sameItems(x.Waiting(9), p.slow.items[:x.Len()]) || !sameList(x.Risk(), lists[x.Risk().Version])) {
			t.Fatalf("%v, %v", x.Waiting(9), x.Risk())
		}
	}
}

// P15.2: an act is refused at each place, on a disk with each kind of thing: ErrDown; behind a loss of power all is as it was.
func TestOpenAtEachAct(t *testing.T) {
	some := opened(t, plain())
	some.takes(7, items(1, 1, "a"), 1)
	some.down(delta(1, "bc", ""), api.OK)
	some.takes(8, items(1, 1, "b"), 1)
	some.down(ack(1), api.OK)
	empty := opened(t, plain())
	fresh := &both{t: t, hand: block.New(hub.Sectors(2)), slow: newSlow(plain())}
	for i, p := range []*both{some, empty, fresh} {
		acts := 0
		for ; ; acts++ {
			h := copied(p.hand)
			h.Arm(acts, acts%2 == 0)
			x, err := hub.Open(h.Disk(), plain())
			if !h.Down() {
				break
			}
			if x != nil || api.Number(err) != api.ErrDown {
				t.Fatalf("%d: act %d was refused: %v", i, acts, err)
			}
			refused(t, h, plain(), api.ErrDown)
			h.Crash(slices.Repeat([]bool{acts%3 == 0}, h.Waiting()))
			openedOn(t, h, p.slow.clone())
		}
		if acts < 6 {
			t.Errorf("%d: %d acts", i, acts)
		}
	}
}

// P15.2: any two values under l and the first delta's key: a hub is opened just if they are its.
func FuzzOpened(f *testing.F) {
	d := slowDelta(deltaWith(1, "ab", ""))
	f.Add(d, d)
	f.Add(d, slowDelta(deltaWith(1, "a", "")))
	f.Add(slowDelta(deltaWith(1, "", "a")), d)
	f.Add(slowDelta(deltaWith(2, "ab", "")), d)
	f.Add([]byte{}, []byte{})
	f.Fuzz(func(t *testing.T, list, first []byte) {
		list, first = list[:min(len(list), api.MaxValue)], first[:min(len(first), api.MaxValue)]
		want := api.ErrHub
		d, fault := record.ReadDelta(list)
		if fault.Code == api.OK && bytes.Equal(list, first) && d.Version == 1 && len(d.Gone) == 0 {
			want = api.OK
		}
		h := laid(t, block.New(hub.Sectors(1)), 1, "l", string(list), "d\x00\x00\x00\x00\x00\x00\x00\x01", string(first))
		x, err := hub.Open(h.Disk(), limited(1))
		if api.Number(err) != want {
			t.Fatalf("Open: %v, not %d", err, want)
		}
		if err == nil && (!sameList(x.Risk(), api.RiskList{Version: 1, Tokens: d.Add}) || risk.Right(x.Risk()) != api.OK) {
			t.Fatal("another list")
		}
	})
}
