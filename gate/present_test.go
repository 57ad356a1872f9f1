package gate_test

import (
	"fmt"
	"math"
	"math/rand"
	"strings"
	"testing"

	"farebox/api"
	"farebox/gate"
	"farebox/record"
	"farebox/seal"
)

// P14.3, P14.5, P14.6: the chapter's examples.
func TestExamples(t *testing.T) {
	p := opened(t, plain())
	is := func(token string, kind, time, verdict, counter int, want api.Errno) {
		t.Helper()
		if v, n, e := p.presentAt(token, kind, 3, time); v != verdict || n != counter || e != want {
			t.Errorf("Present(%s, %d, 3, %d): %d, %d, %d", token, kind, time, v, n, e)
		}
	}
	is(a, api.TapEntry, 100, api.VerdictAccepted, 1, api.OK)
	is(a, api.TapExit, 104, api.VerdictPassback, 0, api.OK)
	is(a, api.TapExit, 105, api.VerdictAccepted, 2, api.OK)
	is(b, api.TapEntry, 106, api.VerdictFull, 0, api.OK)
	is(b, 9, 106, 0, 0, api.ErrRecord)
	p.loses()
	p.stands(1, 2, 0)
	is(a, api.TapEntry, 106, api.VerdictPassback, 0, api.OK)
	p.gets(ack(1), api.OK)
	p.gets(ack(9), api.ErrArg)
	p.stands(2, 2, 0)
	p.gets(delta(1, "b", ""), api.OK)
	is(b, api.TapEntry, 200, api.VerdictListed, 0, api.OK)
	p.stands(2, 2, 1, b)
}

// P14.3: what waits is what the chapters 4 and 8 make of the tap, and they tell it again.
func TestSealedTaps(t *testing.T) {
	setup := api.Gate{Device: 65535, Secret: strings.Repeat("secret", 30), Limit: 9}
	p := opened(t, setup)
	var want []api.Tap
	for _, x := range []api.Tap{
		{Token: a, Kind: api.TapEntry, Place: 1, Time: 0},
		{Token: "\x00\xff\x00\xff\x00\xff\x00\xff", Kind: api.TapExit, Place: 65535, Time: 1 << 31},
		{Token: b, Kind: api.TapBus, Place: 1000, Time: 77},
		{Token: a, Kind: api.TapBus, Place: 1, Time: 1<<31 - 1},
	} {
		x.Device, x.Counter = 65535, len(want)+1
		if v, n, e := p.presentAt(x.Token, x.Kind, x.Place, x.Time); v != api.VerdictAccepted || n != x.Counter || e != api.OK {
			t.Fatalf("%v: %d, %d, %d", x, v, n, e)
		}
		want = append(want, x)
	}
	key, _ := seal.Key(setup.Secret, 65535)
	for i, x := range p.gate.Waiting(9) {
		sealed, e := seal.Open(key, x.Bytes)
		tap, f := record.ReadTap(sealed)
		if e != api.OK || f.Code != api.OK || tap != want[i] || x.Seq != i+1 {
			t.Errorf("%d: %v, %d, %v", x.Seq, tap, e, f)
		}
	}
}

// P14.3: taps that may not be, whoever comes: ErrRecord, and nothing is written.
func TestTapsThatMayNotBe(t *testing.T) {
	p := opened(t, plain())
	p.presents(a, 5, api.VerdictAccepted)
	p.gets(delta(1, "b", ""), api.OK)
	p.hand.Arm(0, false)
	wrong := func(token string, kind, place, time int) {
		t.Helper()
		if v, n, e := p.presentAt(token, kind, place, time); v != 0 || n != 0 || e != api.ErrRecord {
			t.Errorf("Present(%q, %d, %d, %d): %d, %d, %d", token, kind, place, time, v, n, e)
		}
	}
	for _, token := range []string{a, b, c} {
		for _, n := range []int{math.MinInt, -1, 0, 4, 5, 257, 1<<32 + 1, math.MaxInt} {
			wrong(token, n, 3, 5)
		}
		for kind := 1; kind <= 3; kind++ {
			for _, n := range []int{math.MinInt, -1, 0, 65536, 65537, 1<<32 + 1, math.MaxInt} {
				wrong(token, kind, n, 5)
			}
			for _, n := range []int{math.MinInt, -1, 1<<31 + 1, 1 << 32, math.MaxInt} {
				wrong(token, kind, 3, n)
			}
		}
		for _, n := range []int{1001, 65535} {
			wrong(token, api.TapBus, n, 5)
		}
		for _, token := range []string{token[:7], token + "a", token + token} {
			wrong(token, 1, 3, 5)
		}
	}
	wrong("", 1, 3, 5)
	wrong(strings.Repeat("a", 70000), 1, 3, 5)
	if p.hand.Down() {
		t.Error("there was an act")
	}
}

// P14.3: the passback's edges, on either side, of each length.
func TestPassback(t *testing.T) {
	for _, passback := range []int{0, 1, 2, 5, 60, 1439, 1440} {
		for _, at := range []int{0, 1, 5000, 1 << 31} {
			for _, apart := range []int{-1441, -1440, -passback - 1, -passback, -passback + 1, -1, 0, 1, passback - 1, passback, passback + 1, 1440, 1441} {
				p := opened(t, api.Gate{Device: 1, Limit: 3, Passback: passback})
				p.presents(a, at, api.VerdictAccepted)
				want := api.VerdictAccepted
				if apart > -passback && apart < passback {
					want = api.VerdictPassback
				}
				if at+apart < 0 || at+apart > 1<<31 {
					want = failed(api.ErrRecord)
				}
				p.presents(a, at+apart, want)
				p.presents(b, at, api.VerdictAccepted)
			}
		}
	}
}

// P14.3: the time of the last accepted tap is remembered, not of a refused one, nor the greatest; also of one that was let go.
func TestRemembered(t *testing.T) {
	p := opened(t, limited(9))
	p.presents(a, 100, api.VerdictAccepted)
	p.presents(a, 104, api.VerdictPassback)
	p.presents(a, 105, api.VerdictAccepted)
	p.presents(a, 103, api.VerdictPassback)
	p.presents(a, 98, api.VerdictAccepted)
	p.presents(a, 105, api.VerdictAccepted)
	p.presents(a, 98, api.VerdictAccepted)
	p.presents(a, 102, api.VerdictPassback)
	p.presents(a, 103, api.VerdictAccepted)
	p.gets(ack(6), api.OK)
	p.presents(a, 107, api.VerdictPassback)
	p.gets(delta(1, "a", ""), api.OK)
	p.presents(a, 200, api.VerdictListed)
	p.gets(delta(2, "", "a"), api.OK)
	p.presents(a, 107, api.VerdictPassback)
	p.presents(a, 200, api.VerdictAccepted)
	p.presents(b, 200, api.VerdictAccepted)
}

// P14.3: a full queue; what is let go makes room; a refused tap uses no counter up.
func TestFull(t *testing.T) {
	for _, limit := range []int{1, 2, 3, 17} {
		p := opened(t, limited(limit))
		n := 0
		for range 3 {
			for p.gate.Len() < limit {
				n++
				p.presents(fmt.Sprintf("%08d", n), n, api.VerdictAccepted)
			}
			p.hand.Arm(0, false)
			for range 3 {
				p.presents(a, n, api.VerdictFull)
			}
			p.hand.Crash(nil)
			p.gets(ack(n-limit+1), api.OK)
			n++
			p.presents(a, 100*n, api.VerdictAccepted)
			p.presents(b, n, api.VerdictFull)
			p.stands(n-limit+1, n, 0)
			p.gets(ack(n), api.OK)
			p.again()
		}
	}
}

// P14.3: the last counter is given out; behind it nothing is accepted any more, whatever is let go.
func TestTheLastCounter(t *testing.T) {
	for less := range 4 {
		p := near(t, plain(), less)
		for n := api.MaxCounter - less + 1; n <= api.MaxCounter; n++ {
			if v, got, e := p.presentAt(a, 1, 3, 9*(n-api.MaxCounter+less)); v != api.VerdictAccepted || got != n || e != api.OK {
				t.Fatalf("%d, %d, %d, not %d", v, got, e, n)
			}
			p.gets(ack(n), api.OK)
		}
		p.hand.Arm(0, false)
		for range 2 {
			p.presents(b, 100, failed(api.ErrBig))
			p.gets(ack(api.MaxCounter), api.OK)
		}
		p.loses()
		p.presents(b, 100, failed(api.ErrBig))
		p.stands(api.MaxCounter+1, api.MaxCounter, 0)
	}
}

// P14.3, W4: which answer comes first where several would fit.
func TestWhichComesFirst(t *testing.T) {
	p := near(t, limited(1), 1)
	p.presents(a, 100, api.VerdictAccepted)
	p.gets(delta(1, "a", ""), api.OK)
	if _, _, e := p.presentAt(a, 4, 3, 100); e != api.ErrRecord {
		t.Errorf("listed, of no kind: %d", e)
	}
	p.presents(a, 100, api.VerdictListed)
	p.gets(delta(2, "", "a"), api.OK)
	if _, _, e := p.presentAt(a, 1, 0, 100); e != api.ErrRecord {
		t.Errorf("passback, at no place: %d", e)
	}
	p.presents(a, 100, api.VerdictPassback)
	if _, _, e := p.presentAt(a, 1, 1, -1); e != api.ErrRecord {
		t.Errorf("full, at no time: %d", e)
	}
	p.presents(a, 200, api.VerdictFull)
	p.gets(ack(api.MaxCounter), api.OK)
	p.presents(a, 100, api.VerdictPassback)
	if _, _, e := p.presentAt(b[:7], 1, 1, 1); e != api.ErrRecord {
		t.Errorf("behind the last counter, no token: %d", e)
	}
	p.presents(a, 200, failed(api.ErrBig))
	p.gets(delta(3, "a", ""), api.OK)
	p.presents(a, 200, api.VerdictListed)
	p.hand.Arm(0, false)
	p.gets(delta(4, "", "a"), api.ErrDown)
	p.presents(a, 200, failed(api.ErrGateDead))
	if _, _, e := p.presentAt("", 4, 0, -1); e != api.ErrGateDead {
		t.Errorf("a dead gate, no tap: %d", e)
	}
}

// P14.3, P14.9: a listed token is refused, whatever else; it was accepted ahead of that, and is behind.
func TestListed(t *testing.T) {
	p := opened(t, limited(99))
	p.presents(a, 100, api.VerdictAccepted)
	p.gets(deltaOf(api.Delta{Version: 1, Add: append(many(0, 999), a)}), api.OK)
	p.hand.Arm(0, false)
	for _, time := range []int{0, 100, 104, 200, 1 << 31} {
		p.presents(a, time, api.VerdictListed)
		p.presents("00000000", time, api.VerdictListed)
		p.presents("00000998", time, api.VerdictListed)
	}
	p.loses()
	p.presents("00000999", 100, api.VerdictAccepted)
	p.presents("00000500", 100, api.VerdictListed)
	p.gets(deltaOf(api.Delta{Version: 2, Gone: append(many(0, 999), a)}), api.OK)
	p.presents("00000500", 100, api.VerdictAccepted)
	p.presents(a, 200, api.VerdictAccepted)
}

// P14.9: scripts with their refused presentations and without them do all else alike.
func TestRefusalsChangeNothing(t *testing.T) {
	rnd := rand.New(rand.NewSource(143))
	refusals := 0
	for range 40 {
		with, without := opened(t, limited(3)), opened(t, limited(3))
		for range 60 {
			switch rnd.Intn(6) {
			case 0:
				f := ack(rnd.Intn(with.gate.Counter() + 2))
				if with.got(with.made(f)) != without.got(without.made(f)) {
					t.Fatal("Got")
				}
			case 1:
				f := delta(with.gate.Risk().Version+1+rnd.Intn(2), tokens("ab")[rnd.Intn(2)][:1], "")
				if with.got(with.made(f)) != without.got(without.made(f)) {
					t.Fatal("Got")
				}
			case 2:
				if with.told(with.tick()) != without.told(without.tick()) {
					t.Fatal("Tick")
				}
			default:
				token, kind, time := tokens("abcdef")[rnd.Intn(6)], rnd.Intn(5), rnd.Intn(60)
				acts := with.hand.Waiting()
				v, n, _ := with.presentAt(token, kind, 9, time)
				if v == api.VerdictAccepted {
					if v2, n2, _ := without.presentAt(token, kind, 9, time); v2 != v || n2 != n {
						t.Fatalf("%d, %d; without those that were refused %d, %d", v, n, v2, n2)
					}
				} else if refusals++; with.hand.Waiting() != acts {
					t.Fatal("a refusal was written")
				}
			}
		}
		with.loses()
		without.loses()
		for at := range gate.Sectors(3) {
			if string(with.hand.Sector(at)) != string(without.hand.Sector(at)) {
				t.Fatalf("the sector %d", at)
			}
		}
	}
	if refusals < 500 {
		t.Errorf("%d refusals", refusals)
	}
}
