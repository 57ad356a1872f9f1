package settle_test

import (
	"encoding/binary"
	"maps"
	"slices"
	"strings"

	"farebox/api"
	"farebox/charge"
	"farebox/record"
	"farebox/refund"
	"farebox/tariff"
)

// This file tells the chapter slowly, word by word, over a map of all that stands in a draft. Only what single records say, and what a token's taps are charged, it asks of the layers below.

// kept is what stands in a draft.
type kept map[string]string

// be is a number in so many bytes, the highest first.
func be(n, size int) string {
	b := binary.BigEndian.AppendUint64(nil, uint64(n))
	return string(b[8-size:])
}

// keys are those with a beginning, in order.
func (s kept) keys(beginning string) []string {
	var l []string
	for key := range s {
		if strings.HasPrefix(key, beginning) {
			l = append(l, key)
		}
	}
	slices.Sort(l)
	return l
}

// slowTapKey is record.Key's.
func slowTapKey(x api.Tap) string {
	return "t" + x.Token + be(x.Time, 4) + be(x.Device, 2) + be(x.Counter, 4)
}

// tapsWith are those whose keys have a beginning.
func (s kept) tapsWith(beginning string) ([]api.Tap, api.Errno) {
	var l []api.Tap
	for _, key := range s.keys(beginning) {
		x, f := record.ReadTap([]byte(s[key]))
		if f.Code != api.OK || key != slowTapKey(x) {
			return nil, api.ErrSettle
		}
		l = append(l, x)
	}
	return l, api.OK
}

func (s kept) taps(token string) ([]api.Tap, api.Errno) {
	if len(token) != 8 {
		return nil, api.ErrArg
	}
	return s.tapsWith("t" + token)
}

func (s kept) accounts() ([]api.Account, api.Errno) {
	var l []api.Account
	for _, key := range s.keys("a") {
		x, f := record.ReadAccount([]byte(s[key]))
		if f.Code != api.OK || key != "a"+x.Token {
			return nil, api.ErrSettle
		}
		l = append(l, x)
	}
	return l, api.OK
}

func (s kept) tokens() ([]string, api.Errno) {
	its, e := s.tapsWith("t")
	if e != api.OK {
		return nil, e
	}
	accounts, e := s.accounts()
	if e != api.OK {
		return nil, e
	}
	is := map[string]int{}
	for _, x := range its {
		is[x.Token]++
	}
	for _, x := range accounts {
		is[x.Token]++
	}
	return slices.Sorted(maps.Keys(is)), api.OK
}

func (s kept) ledger(run int) ([]api.Entry, api.Errno) {
	if run < 1 || run > 1<<31 {
		return nil, api.ErrArg
	}
	var l []api.Entry
	for place, key := range s.keys("e" + be(run, 4)) {
		x, f := record.ReadEntry([]byte(s[key]))
		if f.Code != api.OK || x.Run != run || key != "e"+be(run, 4)+be(place, 4) {
			return nil, api.ErrSettle
		}
		l = append(l, x)
	}
	return l, api.OK
}

func (s kept) last() (int, api.Errno) {
	l := s.keys("n")
	if len(l) == 0 {
		return 0, api.OK
	}
	if len(l) > 1 || l[0] != "n" || len(s["n"]) != 4 {
		return 0, api.ErrSettle
	}
	n := int(binary.BigEndian.Uint32([]byte(s["n"])))
	if n < 1 || n > 1<<31 {
		return 0, api.ErrSettle
	}
	return n, api.OK
}

func (s kept) list() (api.RiskList, api.Errno) {
	l := s.keys("r")
	if len(l) == 0 {
		return api.RiskList{}, api.OK
	}
	x, f := record.ReadDelta([]byte(s["r"]))
	if len(l) > 1 || l[0] != "r" || f.Code != api.OK || len(x.Gone) > 0 {
		return api.RiskList{}, api.ErrSettle
	}
	return api.RiskList{Version: x.Version, Tokens: x.Add}, api.OK
}

func (s kept) delta(version int) (api.Delta, api.Errno) {
	if version < 1 {
		return api.Delta{}, api.ErrArg
	}
	key := "d" + be(version, 8)
	for _, other := range s.keys(key) {
		x, f := record.ReadDelta([]byte(s[other]))
		if other != key || f.Code != api.OK || x.Version != version {
			return api.Delta{}, api.ErrSettle
		}
	}
	value, is := s[key]
	if !is {
		return api.Delta{}, api.ErrRiskVersion
	}
	x, _ := record.ReadDelta([]byte(value))
	return x, api.OK
}

// runError is the first of P23.2's errors.
func (s kept) runError(run int, t api.Tariff, l []api.Outage) api.Errno {
	last, e := s.last()
	if e != api.OK {
		return e
	}
	list, e := s.list()
	if e != api.OK {
		return e
	}
	if _, e := s.accounts(); e != api.OK {
		return e
	}
	tokens, e := s.tokens()
	if e != api.OK {
		return e
	}
	if run > 1<<31 || run-1 != last {
		return api.ErrSettled
	}
	if list.Version == 1<<63-1 {
		return api.ErrRiskVersion
	}
	if e := tariff.Right(t); e != api.OK {
		return e
	}
	if e := refund.Right(l); e != api.OK {
		return e
	}
	if len(tokens) > 1000 {
		return api.ErrLong
	}
	for _, token := range tokens {
		its, e := s.taps(token)
		if e != api.OK {
			return e
		}
		if _, e := charge.Charge(t, l, its); e != api.OK {
			return e
		}
	}
	return api.OK
}

// slowNight is what a run tells.
type slowNight struct {
	entries []api.Entry
	delta   api.Delta
}

// run is P23.2: what is told, and what stands in the draft then.
func (s kept) run(run int, t api.Tariff, l []api.Outage, answers []bool) (slowNight, kept, api.Errno) {
	if e := s.runError(run, t, l); e != api.OK {
		return slowNight{}, s, e
	}
	var n slowNight
	next := maps.Clone(s)
	tokens, _ := s.tokens()
	var listed []string
	asked := 0
	for _, token := range tokens {
		its, _ := s.taps(token)
		charged, _ := charge.Charge(t, l, its)
		account := api.Account{Token: token}
		if b, is := s["a"+token]; is {
			account, _ = record.ReadAccount([]byte(b))
		}
		if charged != account.Charged {
			n.entries = append(n.entries, api.Entry{Run: run, Token: token, Amount: charged - account.Charged})
		}
		account.Charged = charged
		if account.Paid > charged {
			n.entries = append(n.entries, api.Entry{Run: run, Token: token, Amount: charged - account.Paid, Paid: true})
			account.Paid = charged
		}
		if owed := account.Charged - account.Paid; owed > 0 {
			if asked < len(answers) && answers[asked] {
				n.entries = append(n.entries, api.Entry{Run: run, Token: token, Amount: owed, Paid: true})
				account.Paid = account.Charged
			}
			asked++
		}
		if account.Charged-account.Paid > t.Threshold {
			listed = append(listed, token)
		}
		next["a"+token] = bytesOf(record.Account(account))
	}
	list, _ := s.list()
	n.delta = api.Delta{Version: list.Version + 1, Add: without(listed, list.Tokens), Gone: without(list.Tokens, listed)}
	for place, x := range n.entries {
		next["e"+be(run, 4)+be(place, 4)] = bytesOf(record.Entry(x))
	}
	next["d"+be(n.delta.Version, 8)] = bytesOf(record.Delta(n.delta))
	next["r"] = bytesOf(record.Delta(api.Delta{Version: n.delta.Version, Add: listed}))
	next["n"] = be(run, 4)
	return n, next, api.OK
}

// without are those of a list that are not in the other one.
func without(l, other []string) []string {
	var out []string
	for _, x := range l {
		if !slices.Contains(other, x) {
			out = append(out, x)
		}
	}
	return out
}
