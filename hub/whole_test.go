package hub_test

import (
	"fmt"
	"math/rand"
	"slices"
	"testing"

	"farebox/api"
	"farebox/block"
	"farebox/gate"
	"farebox/hub"
	"farebox/link"
	"farebox/risk"
)

// station are gates, their hub, and somebody who plays the office; what they send lies on ways until it arrives, perhaps twice, or never.
type station struct {
	t        *testing.T
	rnd      *rand.Rand
	lossy    bool
	gates    map[int]*gate.Gate
	gateHand map[int]*block.Hand
	hub      *hub.Hub
	hubHand  *block.Hand
	office   *link.Receiver
	list     api.RiskList
	deltas   []api.Delta
	accepted map[string]int // by their bytes: how often the office got them
	time     int
}

const secret = "a station's"

func hubSetup() api.Hub {
	return api.Hub{Number: 1001, Secret: secret, Limit: 5, Gates: []int{1, 2, 3}}
}

func newStation(t *testing.T, rnd *rand.Rand) *station {
	s := &station{t: t, rnd: rnd, lossy: true, gates: map[int]*gate.Gate{}, gateHand: map[int]*block.Hand{}, hubHand: block.New(hub.Sectors(5)), office: link.NewReceiver(), accepted: map[string]int{}}
	for n := 1; n <= 3; n++ {
		s.gateHand[n] = block.New(gate.Sectors(6))
		s.openGate(n)
	}
	s.openHub()
	return s
}

func (s *station) openGate(n int) {
	g, err := gate.Open(s.gateHand[n].Disk(), api.Gate{Device: n, Secret: secret, Limit: 6})
	if err != nil {
		s.t.Fatal(err)
	}
	s.gates[n] = g
	for _, x := range g.Waiting(9) { // one that was kept though the power went
		s.accepted[string(x.Bytes)] += 0
	}
}

func (s *station) openHub() {
	h, err := hub.Open(s.hubHand.Disk(), hubSetup())
	if err != nil {
		s.t.Fatal(err)
	}
	s.hub = h
}

// arrives says how often a frame does.
func (s *station) arrives() int {
	if !s.lossy {
		return 1
	}
	return s.rnd.Intn(3)
}

// round lets everybody tick once.
func (s *station) round() {
	for n := 1; n <= 3; n++ {
		for _, x := range s.gates[n].Tick() {
			for range s.arrives() {
				s.toHub(n, x)
			}
		}
	}
	for _, x := range s.hub.Tick() {
		for range s.arrives() {
			s.toOffice(x)
		}
	}
}

// toHub is a gate's frame; what answers it goes back.
func (s *station) toHub(n int, x []byte) {
	l, err := s.hub.Got(n, x)
	if e := api.Number(err); e != api.OK && e != api.ErrDown && e != api.ErrHubDead {
		s.t.Fatalf("the hub refuses a frame of the gate %d: %d", n, e)
	}
	for _, x := range l {
		for range s.arrives() {
			err := s.gates[n].Got(x)
			if e := api.Number(err); e != api.OK && e != api.ErrDown && e != api.ErrGateDead && e != api.ErrRiskVersion {
				s.t.Fatalf("the gate %d refuses a frame: %d", n, e)
			}
		}
	}
}

func (s *station) toOffice(x []byte) {
	own, _ := link.Secret(secret, 1001)
	f, e := link.Parse(own, x)
	if e != api.OK {
		s.t.Fatal(e)
	}
	var back []api.Frame
	switch f.Kind {
	case api.FrameItems:
		for _, x := range s.office.Got(f) {
			if _, is := s.accepted[string(x.Bytes)]; !is {
				s.t.Fatalf("%x was never accepted", x.Bytes)
			}
			s.accepted[string(x.Bytes)]++
			s.office.Take(x.Seq)
		}
		ack, _ := s.office.Ack()
		back = append(back, ack)
	case api.FrameHave:
		if f.Seq < s.list.Version {
			back = append(back, deltaOf(s.deltas[f.Seq]))
		}
	}
	for _, f := range back {
		x, _ := link.Make(own, f)
		for range s.arrives() {
			err := s.hub.GotDown(x)
			if e := api.Number(err); e != api.OK && e != api.ErrDown && e != api.ErrHubDead && e != api.ErrRiskVersion {
				s.t.Fatalf("the hub refuses a frame of the office: %d", e)
			}
		}
	}
}

// present presents a card somewhere; what is accepted waits.
func (s *station) present() {
	n := 1 + s.rnd.Intn(3)
	s.time++
	token := many(s.rnd.Intn(12), 1)[0]
	v, _, err := s.gates[n].Present(token, api.TapBus, 5, s.time)
	if listed := risk.Has(s.gates[n].Risk(), token); err == nil && (v == api.VerdictListed) != listed {
		s.t.Fatalf("listed: %v; the verdict is %d", listed, v)
	}
	if v == api.VerdictAccepted {
		l := s.gates[n].Waiting(9)
		s.accepted[string(l[len(l)-1].Bytes)] += 0
	}
}

// next makes the office's list the next one.
func (s *station) next() {
	d := someDelta(s.rnd, s.list)
	s.list, _ = risk.Apply(s.list, d)
	s.deltas = append(s.deltas, d)
}

// lose lets the power of somebody go, now or at a later act.
func (s *station) lose() {
	n := s.rnd.Intn(4)
	hand := s.hubHand
	if n > 0 {
		hand = s.gateHand[n]
	}
	hand.Arm(s.rnd.Intn(4), s.rnd.Intn(2) == 0)
}

// mend opens what is down, with any writes staying.
func (s *station) mend() {
	if s.hubHand.Down() {
		s.hubHand.Crash(someKeep(s.rnd, s.hubHand.Waiting()))
		s.openHub()
	}
	for n := 1; n <= 3; n++ {
		if s.gateHand[n].Down() {
			s.gateHand[n].Crash(someKeep(s.rnd, s.gateHand[n].Waiting()))
			s.openGate(n)
		}
	}
}

// P15.8, P15.9: gates and their hub over ways that lose and double, the power going anywhere: in the end the office has all that was accepted, nothing else, and everybody has its list.
func TestGatesAHubAndTheOffice(t *testing.T) {
	t.Parallel()
	for i := range 12 {
		s := newStation(t, rand.New(rand.NewSource(int64(1590+i))))
		versions := map[string]int{}
		for range 300 {
			switch s.rnd.Intn(8) {
			case 0:
				s.lose()
			case 1:
				s.next()
			case 2, 3, 4:
				s.present()
			default:
				s.round()
			}
			s.mend()
			s.neverFall(versions)
		}
		s.lossy = false
		for range 400 {
			s.round()
			s.mend()
		}
		s.isDone()
	}
}

// neverFall holds each node's list against the office's of that version, and the version against the last one.
func (s *station) neverFall(versions map[string]int) {
	s.t.Helper()
	lists := map[string]api.RiskList{"the hub": s.hub.Risk()}
	for n, g := range s.gates {
		lists[fmt.Sprint("the gate ", n)] = g.Risk()
	}
	for who, l := range lists {
		var want api.RiskList
		for _, d := range s.deltas[:l.Version] {
			want, _ = risk.Apply(want, d)
		}
		if l.Version < versions[who] || !sameList(l, want) {
			s.t.Fatalf("%s: %s behind the version %d", who, short(l), versions[who])
		}
		versions[who] = l.Version
	}
}

func (s *station) isDone() {
	s.t.Helper()
	if s.hub.Len() > 0 || !sameList(s.hub.Risk(), s.list) {
		s.t.Fatalf("%d wait in the hub, %s", s.hub.Len(), short(s.hub.Risk()))
	}
	for n, g := range s.gates {
		if g.Len() > 0 || !sameList(g.Risk(), s.list) {
			s.t.Fatalf("%d wait in the gate %d, %s", g.Len(), n, short(g.Risk()))
		}
	}
	var lost []string
	for x, times := range s.accepted {
		if times == 0 {
			lost = append(lost, fmt.Sprintf("%x", x))
		}
	}
	slices.Sort(lost)
	if len(lost) > 0 || len(s.accepted) < 20 {
		s.t.Fatalf("of %d that were accepted %d are lost: %v", len(s.accepted), len(lost), lost)
	}
}
