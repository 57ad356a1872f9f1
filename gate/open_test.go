package gate_test

import (
	"bytes"
	"fmt"
	"math"
	"math/rand"
	"slices"
	"strings"
	"testing"

	"farebox/api"
	"farebox/block"
	"farebox/gate"
	"farebox/queue"
	"farebox/record"
	"farebox/store"
	"farebox/wal"
)

// P14.1: of each limit the queue's sectors, as chapter 10 says them, and 140; of no other one any.
func TestSectors(t *testing.T) {
	for limit, want := range map[int]int{math.MinInt: 0, -1: 0, 0: 0, 1: 148, 2: 150, 3: 152, 4: 152, 4095: 5022, 4096: 5024, 4097: 0, math.MaxInt: 0} {
		if n := gate.Sectors(limit); n != want {
			t.Errorf("Sectors(%d): %d, not %d", limit, n, want)
		}
	}
	for limit := 1; limit <= 4096; limit++ {
		half := 0
		for 504*half < 300*(limit+4) {
			half++
		}
		if n := gate.Sectors(limit); n != 2+2*half+140 {
			t.Fatalf("Sectors(%d): %d, not %d", limit, n, 2+2*half+140)
		}
	}
}

// P14.1: the queue stands in the first sectors, the store in the 140 behind these; what is behind is left alone.
func TestPlaces(t *testing.T) {
	for _, limit := range []int{1, 2, 7} {
		h := block.New(gate.Sectors(limit) + 5)
		for at := range 5 {
			h.Plant(gate.Sectors(limit)+at, bytes.Repeat([]byte{7}, 512))
		}
		p := openedOn(t, h, newSlow(limited(limit)))
		for n := range 60 {
			p.gets(ack(n), api.OK)
			p.presents(fmt.Sprintf("t%07d", n), n, api.VerdictAccepted)
			p.gets(deltaOf(api.Delta{Version: n + 1, Add: many(1000*n, 1000), Gone: p.gate.Risk().Tokens}), api.OK)
		}
		for at := range 5 {
			if !bytes.Equal(h.Sector(gate.Sectors(limit)+at), bytes.Repeat([]byte{7}, 512)) {
				t.Errorf("limit %d: the sector %d behind the gate's was written", limit, at)
			}
		}
		q, err := queue.Open(queuePart(h, limit), limit)
		if err != nil || !sameItems(q.Peek(9), p.slow.items) || q.Last() != 60 {
			t.Errorf("limit %d: the queue: %v", limit, err)
		}
		s, err := store.Open(storePart(h, limit))
		if err != nil || s.Begin().Len() == 0 {
			t.Errorf("limit %d: the store: %v", limit, err)
		}
		p.again()
	}
}

// P14.2: each field of a set-up at its edges.
func TestSetups(t *testing.T) {
	for _, device := range []int{1, 2, 255, 256, 65534, 65535} {
		p := opened(t, api.Gate{Device: device, Secret: "k", Limit: 1, Passback: 1})
		p.presents(a, 1, api.VerdictAccepted)
		p.again()
	}
	for _, size := range []int{0, 1, 63, 64, 65, 199, 200} {
		p := opened(t, api.Gate{Device: 1, Secret: strings.Repeat("s", size), Limit: 1, Passback: 1})
		p.presents(a, 1, api.VerdictAccepted)
		p.again()
		p.tick()
		p.gets(ack(1), api.OK)
	}
	for _, limit := range []int{1, 2, 4096} {
		p := opened(t, api.Gate{Device: 1, Limit: limit})
		for n := range limit {
			if v, _, _ := p.gate.Present(a, api.TapExit, 1, n); v != api.VerdictAccepted {
				t.Fatalf("%d of %d: %d", n, limit, v)
			}
			p.slow.present(a, api.TapExit, 1, n)
		}
		p.presents(a, 1, api.VerdictFull)
		p.again()
		p.presents(a, 1, api.VerdictFull)
	}
	for _, passback := range []int{0, 1, 1440} {
		p := opened(t, api.Gate{Device: 1, Limit: 5, Passback: passback})
		p.presents(a, 5000, api.VerdictAccepted)
		p.presents(a, 5000+passback, api.VerdictAccepted)
	}
}

// P14.2: one past each edge, and far off, on any disk: it is not even looked at.
func TestSetupsThatMayNotBe(t *testing.T) {
	wrong := func(change func(*api.Gate)) {
		t.Helper()
		s := plain()
		change(&s)
		small, down, right := block.New(3), block.New(300), block.New(6000)
		down.Arm(0, false)
		down.Disk().Sync()
		right.Arm(0, false)
		for _, h := range []*block.Hand{small, down, right} {
			refused(t, h, s, api.ErrGate)
		}
		if right.Down() {
			t.Error("there was an act")
		}
	}
	far := []int{math.MinInt, -1 << 32, math.MaxInt, 1 << 32}
	for _, n := range append(far, -1, 0, 65536, 65537, 1<<32+1) {
		wrong(func(s *api.Gate) { s.Device = n })
	}
	for _, n := range []int{201, 202, 70000} {
		wrong(func(s *api.Gate) { s.Secret = strings.Repeat("s", n) })
	}
	for _, n := range append(far, -1, 0, 4097, 1<<32+1) {
		wrong(func(s *api.Gate) { s.Limit = n })
	}
	for _, n := range append(far, -1, 1441) {
		wrong(func(s *api.Gate) { s.Passback = n })
	}
}

// P14.2: a disk with one sector too few, just enough, and more; ErrArg comes ahead of ErrDown.
func TestOpenOfDisks(t *testing.T) {
	for _, limit := range []int{1, 2, 3, 4, 100, 4096} {
		for _, less := range []int{1, 2, 100, 148} {
			h := block.New(gate.Sectors(limit) - less)
			h.Arm(0, false)
			refused(t, h, limited(limit), api.ErrArg)
			if h.Down() {
				t.Error("there was an act")
			}
			h.Disk().Sync()
			refused(t, h, limited(limit), api.ErrArg)
		}
		for _, more := range []int{0, 1, 2, 500} {
			p := openedOn(t, block.New(gate.Sectors(limit)+more), newSlow(limited(limit)))
			p.stands(1, 0, 0)
			p.presents(a, 1, api.VerdictAccepted)
			p.again()
		}
	}
	p := openedOn(t, block.New(api.MaxSectors+1), newSlow(plain()))
	p.presents(a, 1, api.VerdictAccepted)
	p.again()
}

// P14.2: a gate on a part of a disk.
func TestOpenOfAPart(t *testing.T) {
	h := block.New(500)
	for range 2 {
		for device, from := range map[int]int{1: 0, 2: 150, 3: 333} {
			g, err := gate.Open(h.Disk().Part(from, 160), api.Gate{Device: device, Secret: "k", Limit: 2})
			if err != nil {
				t.Fatal(err)
			}
			if g.Len() == 0 {
				g.Present(a, 1, device, 5)
			}
			want := api.Tap{Device: device, Counter: 1, Token: a, Kind: 1, Place: device, Time: 5}
			if l := g.Waiting(9); len(l) != 1 || !bytes.Equal(l[0].Bytes, slowSealed("k", want)) {
				t.Errorf("device %d: %v", device, l)
			}
		}
	}
}

// tap is one of the device 7, with its seal under the secret k.
func tap(counter int, token string, time int) []byte {
	return slowSealed("k", api.Tap{Device: 7, Counter: counter, Token: token, Kind: api.TapBus, Place: 9, Time: time})
}

func bytesOf(d api.Delta) string { return string(deltaOf(d).Bytes) }

// no are disks on which something else than a gate {7, k, 2, 5} stands, each with what it is.
func no(t *testing.T) map[string]*block.Hand {
	t.Helper()
	l := map[string]*block.Hand{}
	spoilt := func(at int) []byte {
		x := tap(1, a, 5)
		x[at]++
		return x
	}
	of := func(change func(*api.Tap)) []byte {
		x := api.Tap{Device: 7, Counter: 1, Token: a, Kind: api.TapBus, Place: 9, Time: 5}
		change(&x)
		return slowSeal(slowKey("k", 7), slowTap(x))
	}
	for what, x := range map[string][]byte{
		"nothing":                 nil,
		"a byte":                  {1},
		"a word":                  []byte("no tap of a gate's"),
		"just a seal":             slowSeal(slowKey("k", 7), nil),
		"a seal, and some bytes":  slowSeal(slowKey("k", 7), []byte("some bytes")),
		"a tap without a seal":    tap(1, a, 5)[:21],
		"a tap with half a seal":  tap(1, a, 5)[:29],
		"a tap, one byte too few": tap(1, a, 5)[:36],
		"a tap, one more byte":    append(tap(1, a, 5), 0),
		"a tap, one more, sealed": slowSeal(slowKey("k", 7), append(tap(1, a, 5)[:21], 0)),
		"a tap, one less, sealed": slowSeal(slowKey("k", 7), tap(1, a, 5)[:20]),
		"another token":           spoilt(8),
		"another seal":            spoilt(30),
		"another secret's":        slowSealed("l", api.Tap{Device: 7, Counter: 1, Token: a, Kind: 3, Place: 9, Time: 5}),
		"another device's":        slowSealed("k", api.Tap{Device: 8, Counter: 1, Token: a, Kind: 3, Place: 9, Time: 5}),
		"the link's seal":         slowSeal(slowSecret("k", 7), tap(1, a, 5)[:21]),
		"another device in it":    of(func(x *api.Tap) { x.Device = 8 }),
		"no device in it":         of(func(x *api.Tap) { x.Device = 0 }),
		"the counter 0":           of(func(x *api.Tap) { x.Counter = 0 }),
		"the counter 3":           of(func(x *api.Tap) { x.Counter = 3 }),
		"the greatest counter":    of(func(x *api.Tap) { x.Counter = api.MaxCounter }),
		"no kind":                 of(func(x *api.Tap) { x.Kind = 0 }),
		"the kind 4":              of(func(x *api.Tap) { x.Kind = 4 }),
		"no place":                of(func(x *api.Tap) { x.Place = 0 }),
		"a route that is none":    of(func(x *api.Tap) { x.Place = 1001 }),
		"no time":                 of(func(x *api.Tap) { x.Time = 1<<31 + 1 }),
	} {
		l["the item: "+what] = queued(t, 2, 0, x)
		l["the second item: "+what] = queued(t, 2, 0, tap(1, a, 5), x)
		l["the first item: "+what] = queued(t, 2, 0, x, tap(2, a, 5))
		l["a late item: "+what] = queued(t, 2, 5, x)
	}
	l["a counter that is too great"] = queued(t, 2, 0, tap(2, a, 5))
	l["a counter that is too small"] = queued(t, 2, 1, tap(1, a, 5))
	l["the same counter twice"] = queued(t, 2, 0, tap(1, a, 5), tap(1, a, 5))
	l["counters the other way round"] = queued(t, 2, 0, tap(2, a, 5), tap(1, a, 5))
	l["a counter that went round"] = queued(t, 2, api.MaxCounter-2, tap(api.MaxCounter-1, a, 5), tap(0, a, 5))
	more := queued(t, 3, 0, tap(1, a, 5), tap(2, a, 5), tap(3, a, 5))
	l["more items"] = block.New(gate.Sectors(2))
	log, _, _ := wal.Open(queuePart(l["more items"], 2))
	_, records, _ := wal.Open(queuePart(more, 3))
	if err := log.Rewrite(records); err != nil {
		t.Fatal(err)
	}
	whole := bytesOf(api.Delta{Version: 3, Add: tokens("ab")})
	for what, x := range map[string][]string{
		"another key":         {"k", whole},
		"a longer key":        {"ll", whole},
		"one more, behind":    {"l", whole, "m", ""},
		"one more, ahead":     {"k", "", "l", whole},
		"others":              {"a", "1", "b", "2"},
		"an empty list":       {"l", ""},
		"a word":              {"l", "no list"},
		"one byte too few":    {"l", whole[:len(whole)-1]},
		"one byte more":       {"l", whole + "\x00"},
		"the version 0":       {"l", "\x00" + whole[1:7] + "\x00" + whole[8:]},
		"a version below":     {"l", "\x80" + whole[1:]},
		"tokens that fall":    {"l", whole[:10] + b + a + "\x00\x00"},
		"one that is gone":    {"l", bytesOf(api.Delta{Version: 3, Add: tokens("a"), Gone: tokens("b")})},
		"none but one gone":   {"l", bytesOf(api.Delta{Version: 3, Gone: tokens("b")})},
		"a hub's":             {"d\x00\x00\x00\x00\x00\x00\x00\x01", bytesOf(api.Delta{Version: 1, Add: tokens("a")}), "l", bytesOf(api.Delta{Version: 1, Add: tokens("a")})},
		"too many tokens":     {"l", whole[:8] + "\x03\xe9" + strings.Join(many(0, 1001), "") + "\x00\x00"},
		"another one of many": {"l", whole, "l2", whole},
	} {
		l["the store: "+what] = laid(t, queued(t, 2, 0, tap(1, a, 5)), 2, x...)
		l["no queue, the store: "+what] = laid(t, block.New(gate.Sectors(2)), 2, x...)
	}
	for what, part := range map[string]func(*block.Hand, int) *block.Disk{"the queue": queuePart, "the store": storePart} {
		h := queued(t, 2, 0, tap(1, a, 5))
		log, _, _ := wal.Open(part(h, 2))
		if err := log.Rewrite([][]byte{[]byte("a log")}); err != nil {
			t.Fatal(err)
		}
		l[what+": another log"] = h
	}
	h := queued(t, 2, 0, tap(1, a, 5))
	q, _ := queue.Open(storePart(h, 2), 2)
	q.Put(tap(1, a, 5))
	q.Sync()
	l["the store: a queue"] = h
	h = block.New(gate.Sectors(2))
	s, _ := store.Open(queuePart(h, 2))
	d := s.Begin()
	d.Put("l", "1")
	s.Commit(d)
	l["the queue: a store"] = h
	return l
}

// P14.2: something else stands on the disk: it is refused, and stays; where the power goes meanwhile it is ErrDown.
func TestOpenOfOtherThings(t *testing.T) {
	for what, h := range no(t) {
		for _, part := range []func(*block.Hand, int) *block.Disk{queuePart, storePart} {
			_, before, _ := wal.Open(part(h, 2))
			for range 3 {
				refused(t, h, plain(), api.ErrGate)
			}
			if _, after, _ := wal.Open(part(h, 2)); !slices.EqualFunc(before, after, bytes.Equal) {
				t.Errorf("%s: it was changed", what)
			}
		}
		for acts := 0; ; acts++ {
			h := copied(h)
			h.Arm(acts, acts%2 == 0)
			_, err := gate.Open(h.Disk(), plain())
			if !h.Down() {
				break
			}
			if api.Number(err) != api.ErrDown {
				t.Errorf("%s: the power goes at act %d: %v", what, acts, err)
			}
			h.Crash(slices.Repeat([]bool{acts%3 == 0}, h.Waiting()))
			refused(t, h, plain(), api.ErrGate)
		}
		h.Arm(0, false)
		h.Disk().Sync()
		refused(t, h, plain(), api.ErrDown)
	}
}

// P14.2: of a gate's own disk another device, or another secret, is refused as long as there are items; another limit or passback is not.
func TestOpenWithAnotherSetup(t *testing.T) {
	p := opened(t, limited(3))
	p.gets(delta(1, "b", ""), api.OK)
	p.presents(a, 5, api.VerdictAccepted)
	for _, s := range []api.Gate{{Device: 8, Secret: "k", Limit: 3}, {Device: 7, Secret: "l", Limit: 3}, {Device: 7, Limit: 3}, {Device: 7 + 256, Secret: "k", Limit: 3}} {
		refused(t, p.hand, s, api.ErrGate)
	}
	p.again()
	for _, s := range []api.Gate{{Device: 7, Secret: "k", Limit: 4}, {Device: 7, Secret: "k", Limit: 3, Passback: 1440}, {Device: 7, Secret: "k", Limit: 4, Passback: 9}} {
		p.slow.setup = s
		p.again()
	}
	p.presents(c, 5, api.VerdictAccepted)
	p.presents(c, 14, api.VerdictAccepted)
	p.presents(c, 23, api.VerdictAccepted)
	refused(t, p.hand, limited(3), api.ErrGate)
	p.again()
	p.gets(ack(4), api.OK)
	p.slow.setup = api.Gate{Device: 8, Secret: "other", Limit: 3}
	p.again()
	p.stands(5, 4, 1, b)
}

// P14.2: without a log there is a gate without items, of version 0, whatever bytes stand there; one that was opened, and to which nothing was done, is one, too.
func TestOpenWithoutAGate(t *testing.T) {
	rnd := rand.New(rand.NewSource(141))
	for i := range 20 {
		h := block.New(gate.Sectors(2))
		for at := range gate.Sectors(2) {
			x := bytes.Repeat([]byte{byte(i)}, 512)
			if i%2 == 0 {
				rnd.Read(x)
			}
			h.Plant(at, x)
		}
		p := openedOn(t, h, newSlow(plain()))
		p.stands(1, 0, 0)
		p.again()
		p.loses()
		p.presents(a, 5, api.VerdictAccepted)
		p.gets(delta(1, "b", ""), api.OK)
		p.again()
		p.stands(1, 1, 1, b)
	}
}

// P14.2: what is damaged on a gate's disk, in any sector: Open ends, and what it tells is what was there, its beginning, or nothing.
func TestOpenOfDamagedDisks(t *testing.T) {
	rnd := rand.New(rand.NewSource(142))
	p := opened(t, limited(9))
	for n := range 9 {
		p.presents(a, 10*n, api.VerdictAccepted)
		p.gets(deltaOf(api.Delta{Version: n + 1, Add: many(10*n, 10)}), api.OK)
	}
	for range 300 {
		h := copied(p.hand)
		for range 1 + rnd.Intn(2) {
			at := rnd.Intn(gate.Sectors(9))
			x := h.Sector(at)
			x[rnd.Intn(512)] ^= byte(1 + rnd.Intn(255))
			h.Plant(at, x)
		}
		g, err := gate.Open(h.Disk(), limited(9))
		if e := api.Number(err); e != api.OK && e != api.ErrGate {
			t.Fatalf("Open: %v", err)
		}
		if err == nil && !sameItems(g.Waiting(9), p.slow.items[:g.Len()]) {
			t.Fatalf("%v", g.Waiting(9))
		}
	}
}

// P14.2: an act is refused at each place, on a disk with each kind of thing: ErrDown; behind a loss of power all is as it was.
func TestOpenAtEachAct(t *testing.T) {
	some := opened(t, plain())
	some.presents(a, 1, api.VerdictAccepted)
	some.gets(delta(1, "bc", ""), api.OK)
	some.presents(a, 9, api.VerdictAccepted)
	some.gets(ack(1), api.OK)
	empty := opened(t, plain())
	fresh := &both{t: t, hand: block.New(gate.Sectors(2)), slow: newSlow(plain())}
	for i, p := range []*both{some, empty, fresh} {
		acts := 0
		for ; ; acts++ {
			h := copied(p.hand)
			h.Arm(acts, acts%2 == 0)
			g, err := gate.Open(h.Disk(), plain())
			if !h.Down() {
				break
			}
			if g != nil || api.Number(err) != api.ErrDown {
				t.Fatalf("%d: act %d was refused: %v", i, acts, err)
			}
			refused(t, h, plain(), api.ErrDown)
			h.Crash(slices.Repeat([]bool{acts%3 == 0}, h.Waiting()))
			openedOn(t, h, p.slow.clone())
		}
		if acts < 6 {
			t.Errorf("%d: %d acts", i, acts)
		}
	}
}

// P14.2: what is remembered behind Open: of the taps that wait the last one of each token, whatever their times; nothing of those that were let go.
func TestRememberedBehindOpen(t *testing.T) {
	p := opened(t, limited(6))
	p.presents(a, 100, api.VerdictAccepted)
	p.presents(b, 100, api.VerdictAccepted)
	p.presents(a, 300, api.VerdictAccepted)
	p.presents(c, 100, api.VerdictAccepted)
	p.presents(a, 200, api.VerdictAccepted)
	p.gets(ack(2), api.OK)
	for _, time := range []int{196, 200, 204} {
		p.presents(a, time, api.VerdictPassback)
		p.presents(b, 100+time-200, api.VerdictPassback)
	}
	p.again()
	for _, time := range []int{196, 200, 204} {
		p.presents(a, time, api.VerdictPassback)
		p.presents(c, time-100, api.VerdictPassback)
	}
	p.presents(b, 100, api.VerdictAccepted)
	p.presents(a, 300, api.VerdictAccepted)
	p.loses()
	p.presents(b, 104, api.VerdictPassback)
	p.presents(a, 296, api.VerdictPassback)
	p.presents(a, 204, api.VerdictAccepted)
	p.gets(ack(8), api.OK)
	p.again()
	p.presents(a, 300, api.VerdictAccepted)
	p.presents(b, 100, api.VerdictAccepted)
	p.presents(c, 100, api.VerdictAccepted)
}

// P14.2: any item in the queue and any value in the store: a gate is opened just if they are its.
func FuzzOpened(f *testing.F) {
	f.Add(tap(1, a, 5), []byte(bytesOf(api.Delta{Version: 3, Add: tokens("ab")})), true)
	f.Add(tap(1, a, 5)[:21], []byte(bytesOf(api.Delta{Version: 3, Gone: tokens("ab")})), true)
	f.Add(slowTap(api.Tap{Device: 7, Counter: 1, Token: a, Kind: 1, Place: 9, Time: 5}), []byte(bytesOf(api.Delta{Version: 1})), false)
	f.Add([]byte{}, []byte{}, false)
	f.Fuzz(func(t *testing.T, item, value []byte, sealed bool) {
		item, value = item[:min(len(item), 240)], value[:min(len(value), api.MaxValue)]
		if !sealed {
			item = slowSeal(slowKey("k", 7), item)
		}
		want := api.ErrGate
		d, fault := record.ReadDelta(value)
		if fault.Code == api.OK && len(d.Gone) == 0 && isTap(item) {
			want = api.OK
		}
		h := laid(t, queued(t, 1, 0, item), 1, "l", string(value))
		g, err := gate.Open(h.Disk(), limited(1))
		if api.Number(err) != want {
			t.Fatalf("Open: %v, not %d", err, want)
		}
		if err == nil && (!sameItems(g.Waiting(2), []api.Item{{Seq: 1, Bytes: item}}) || !sameList(g.Risk(), api.RiskList{Version: d.Version, Tokens: d.Add})) {
			t.Fatal("another gate")
		}
	})
}

// isTap tells whether an item is a sealed tap of the device 7 with the counter 1.
func isTap(item []byte) bool {
	if len(item) != 37 || !bytes.Equal(item, slowSeal(slowKey("k", 7), item[:21])) {
		return false
	}
	tap, fault := record.ReadTap(item[:21])
	return fault.Code == api.OK && tap.Device == 7 && tap.Counter == 1
}
