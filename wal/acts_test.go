package wal_test

import (
	"testing"

	"farebox/api"
)

// atEachAct does a call with the power going at each act of it, before that and behind, and holds all that is left against the twin's: what is read, which writes wait and in which order, what a dead log answers, and what Open tells behind it. The answer is how many acts the call has.
func atEachAct(t *testing.T, build func() *pair, call func(*pair) api.Errno) int {
	t.Helper()
	for acts := 0; ; acts++ {
		for _, done := range []bool{false, true} {
			p := build()
			p.arm(acts, done)
			e := call(p)
			if !p.hand.Down() {
				p.want(e, api.OK)
				return acts
			}
			p.want(e, api.ErrDown)
			p.isDead()
			for _, keep := range keeps(p.hand.Waiting()) {
				p := build()
				p.arm(acts, done)
				call(p)
				p.crash(keep)
				p.opens()
			}
		}
	}
}

// keeps says of so many writes in several ways which stay: none, all, each alone, all but each.
func keeps(many int) [][]bool {
	l := [][]bool{nil, make([]bool, many)}
	for i := range many {
		l[1][i] = true
		alone, without := make([]bool, many), make([]bool, many)
		for j := range many {
			alone[j], without[j] = i == j, i != j
		}
		l = append(l, alone, without)
	}
	return l
}

// isDead holds that every call answers as of a dead log, with the disk down and with it up again, and that no act is done.
func (p *pair) isDead() {
	p.t.Helper()
	if p.log == nil {
		return
	}
	room, records, number := p.log.Room(), p.log.Records(), p.log.Number()
	for range 2 {
		p.want(p.append(nil), api.ErrWalDead)
		p.want(p.append(make([]byte, 1<<16)), api.ErrWalDead)
		p.want(p.sync(), api.ErrWalDead)
		p.want(p.rewrite(), api.ErrWalDead)
		p.want(p.rewrite([]byte("x")), api.ErrWalDead)
		p.want(p.rewrite(make([]byte, 1<<16)), api.ErrWalDead)
		p.numbers(room, records, number)
		p.hand.Crash(nil)
		p.twin.Crash(nil)
	}
}
