package ingest_test

import (
	"math/rand"
	"slices"
	"testing"

	"farebox/api"
	"farebox/block"
	"farebox/gate"
	"farebox/hub"
	"farebox/ingest"
)

// lines are gates, hubs and an office; what they send lies on ways until it arrives, perhaps twice, late, spoilt, or never.
type lines struct {
	t        *testing.T
	rnd      *rand.Rand
	lossy    bool
	gates    map[int]*gate.Gate
	hubs     map[int]*hub.Hub
	office   *ingest.Office
	hands    map[int]*block.Hand // by the node's number; the office's is 0
	ways     []func()            // what is on the way: each lets it arrive
	accepted map[string]int      // the taps' bytes
	seen     map[string]int      // those that the office told once
	time     int
}

const (
	secret  = "the lines'"
	perHub  = 2
	gatesOf = 4
)

func newLines(t *testing.T, rnd *rand.Rand) *lines {
	l := &lines{t: t, rnd: rnd, lossy: true, gates: map[int]*gate.Gate{}, hubs: map[int]*hub.Hub{}, hands: map[int]*block.Hand{}, accepted: map[string]int{}, seen: map[string]int{}}
	for n := 1; n <= gatesOf; n++ {
		l.hands[n] = block.New(gate.Sectors(6))
	}
	for n := 1001; n <= 1002; n++ {
		l.hands[n] = block.New(hub.Sectors(5))
	}
	l.hands[0] = block.New(200)
	for n := range l.hands {
		l.open(n)
	}
	return l
}

// open opens a node.
func (l *lines) open(n int) {
	l.t.Helper()
	var err error
	switch d := l.hands[n].Disk(); {
	case n == 0:
		l.office, err = ingest.Open(d, api.Office{Secret: secret, Hubs: []int{1001, 1002}})
	case n > 1000:
		first := 1 + perHub*(n-1001)
		l.hubs[n], err = hub.Open(d, api.Hub{Number: n, Secret: secret, Limit: 5, Gates: []int{first, first + 1}})
	default:
		l.gates[n], err = gate.Open(d, api.Gate{Device: n, Secret: secret, Limit: 6})
		if err == nil {
			l.accept(n) // one that was kept though the power went
		}
	}
	if err != nil {
		l.t.Fatalf("%d: %v", n, err)
	}
}

// accept knows what waits in a gate as accepted.
func (l *lines) accept(n int) {
	for _, x := range l.gates[n].Waiting(9) {
		l.accepted[string(x.Bytes[:21])]++
	}
}

func hubOf(n int) int { return 1001 + (n-1)/perHub }

// sends puts frames on a way.
func (l *lines) sends(frames [][]byte, arrives func(x []byte)) {
	for _, x := range frames {
		if !l.lossy {
			arrives(x)
			continue
		}
		for range l.rnd.Intn(3) {
			l.ways = append(l.ways, func() { arrives(x) })
		}
		if l.rnd.Intn(6) == 0 {
			spoilt := slices.Clone(x)
			spoilt[l.rnd.Intn(len(x))] ^= byte(1 + l.rnd.Intn(255))
			l.ways = append(l.ways, func() { arrives(spoilt) })
		}
	}
}

// arrive lets some of what is on the way arrive, in any order.
func (l *lines) arrive() {
	for range 1 + l.rnd.Intn(6) {
		if len(l.ways) == 0 {
			return
		}
		i := l.rnd.Intn(len(l.ways))
		arrives := l.ways[i]
		l.ways = slices.Delete(l.ways, i, i+1)
		arrives()
	}
}

// fine holds that an error is one that may come about.
func (l *lines) fine(who string, err error, may ...api.Errno) {
	l.t.Helper()
	e := api.Number(err)
	if e != api.OK && e != api.ErrDown && !slices.Contains(may, e) && !(l.lossy && e == api.ErrLinkSeal) {
		l.t.Fatalf("%s refuses a frame: %d", who, e)
	}
}

// tick lets a node tick.
func (l *lines) tick(n int) {
	if n > 1000 {
		l.sends(l.hubs[n].Tick(), func(x []byte) {
			back, err := l.office.Got(n, x)
			l.fine("the office", err, api.ErrIngestDead, api.ErrLinkForm)
			l.sends(back, func(x []byte) { l.fine("the hub", l.hubs[n].GotDown(x), api.ErrHubDead) })
		})
		return
	}
	l.sends(l.gates[n].Tick(), func(x []byte) {
		back, err := l.hubs[hubOf(n)].Got(n, x)
		l.fine("the hub", err, api.ErrHubDead)
		l.sends(back, func(x []byte) { l.fine("the gate", l.gates[n].Got(x), api.ErrGateDead) })
	})
}

// round lets everybody tick once.
func (l *lines) round() {
	for n := 1; n <= gatesOf; n++ {
		l.tick(n)
	}
	l.tick(1001)
	l.tick(1002)
}

// present presents a card somewhere; what is accepted waits.
func (l *lines) present() {
	n := 1 + l.rnd.Intn(gatesOf)
	l.time++
	v, _, _ := l.gates[n].Present(numbered(l.rnd.Intn(12)), api.TapBus, 5, l.time)
	if v == api.VerdictAccepted {
		l.accept(n)
	}
}

// lose lets the power of somebody go, at one of the next acts.
func (l *lines) lose() {
	at := []int{0, 0, 1001, 1002, 1, 2, 3, 4}
	l.hands[at[l.rnd.Intn(len(at))]].Arm(l.rnd.Intn(4), l.rnd.Intn(2) == 0)
}

// mend opens what is down, with any writes staying.
func (l *lines) mend() {
	for n := range 1003 {
		if h := l.hands[n]; h != nil && h.Down() {
			h.Crash(someKeep(l.rnd, h.Waiting()))
			l.open(n)
		}
	}
}

// holds: what was taken in was accepted, is there once, and stays; nothing is put aside.
func (l *lines) holds() {
	l.t.Helper()
	seen := map[string]int{}
	for _, x := range l.office.Taps() {
		b := string(slowTap(x))
		if l.accepted[b] == 0 || seen[b] > 0 {
			l.t.Fatalf("%v was not accepted, or is there twice", x)
		}
		seen[b]++
	}
	for b := range l.seen {
		if seen[b] == 0 {
			l.t.Fatalf("%x is there no more", b)
		}
	}
	l.seen = seen
	if bad := l.office.Bad(); len(bad) > 0 {
		l.t.Fatalf("%q was put aside", bad)
	}
}

// P16.6, P16.7: gates, hubs and the office over ways that lose, double, mix up and spoil, the power going anywhere: in the end the office has all that was accepted, once, byte for byte, and nothing else.
func TestGatesHubsAndTheOffice(t *testing.T) {
	t.Parallel()
	for i := range 8 {
		l := newLines(t, rand.New(rand.NewSource(int64(1690+i))))
		for range 500 {
			switch l.rnd.Intn(9) {
			case 0:
				l.lose()
			case 1, 2, 3:
				l.present()
			case 4, 5:
				l.tick([]int{1, 2, 3, 4, 1001, 1002}[l.rnd.Intn(6)])
			default:
				l.arrive()
			}
			l.mend()
			l.holds()
		}
		l.lossy, l.ways = false, nil
		for range 200 {
			l.round()
			l.mend()
			l.holds()
		}
		l.isDone()
	}
}

func (l *lines) isDone() {
	l.t.Helper()
	for n, x := range l.gates {
		if x.Len() > 0 {
			l.t.Fatalf("%d wait in the gate %d", x.Len(), n)
		}
	}
	for n, x := range l.hubs {
		if x.Len() > 0 {
			l.t.Fatalf("%d wait in the hub %d", x.Len(), n)
		}
	}
	var want []string
	for b := range l.accepted {
		want = append(want, b)
	}
	var got []string
	for _, x := range l.office.Taps() {
		got = append(got, string(slowTap(x)))
	}
	slices.Sort(want)
	slices.Sort(got)
	if !slices.Equal(got, want) || len(want) < 20 {
		l.t.Fatalf("%d were accepted, %d are there: %x, not %x", len(want), len(got), got, want)
	}
}
