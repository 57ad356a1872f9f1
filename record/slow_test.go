package record_test

import (
	"encoding/binary"
	"math"
	"slices"

	"farebox/api"
	"farebox/tariff"
)

// slow takes pieces as chapter 1 tells it, one behind another, and keeps where each began.
type slow struct {
	given  []byte
	at     int
	starts []int
	fault  api.Fault
}

func (s *slow) refuse(e api.Errno) {
	if s.fault.Code == api.OK {
		s.fault = api.Fault{Code: e, At: s.starts[len(s.starts)-1]}
	}
}

// next are the bytes of a piece; noughts behind a fault.
func (s *slow) next(size int) []byte {
	if s.fault.Code != api.OK {
		return make([]byte, size)
	}
	s.starts = append(s.starts, s.at)
	if s.at+size > len(s.given) {
		s.refuse(api.ErrWireShort)
		return make([]byte, size)
	}
	s.at += size
	return s.given[s.at-size : s.at]
}

func (s *slow) unsigned(size int) uint64 {
	return binary.BigEndian.Uint64(append(make([]byte, 8-size), s.next(size)...))
}

func (s *slow) number(size int) int {
	n := s.unsigned(size)
	if n >= 1<<63 {
		s.refuse(api.ErrWireForm)
		return 0
	}
	return int(n)
}

func (s *slow) token() string { return string(s.next(8)) }

func (s *slow) amount() int { return int(s.unsigned(8)) }

func (s *slow) truth() bool {
	n := s.unsigned(1)
	if n > 1 {
		s.refuse(api.ErrWireForm)
	}
	return n == 1
}

func (s *slow) rate() float64 {
	bits := s.unsigned(8)
	x := math.Float64frombits(bits)
	if x != x && bits != 0x7ff8000000000000 {
		s.refuse(api.ErrWireForm)
	}
	return x
}

func (s *slow) list(most int, element func()) {
	n := int(s.unsigned(2))
	if n > most {
		s.refuse(api.ErrWireLong)
	}
	for i := 0; i < n && s.fault.Code == api.OK; i++ {
		element()
	}
}

func (s *slow) end() api.Fault {
	if s.fault.Code == api.OK && s.at < len(s.given) {
		return api.Fault{Code: api.ErrWireMore, At: s.at}
	}
	return s.fault
}

// wide is a number in so many bytes, the highest first, if it fits.
func wide(n, size int) []byte { return binary.BigEndian.AppendUint64(nil, uint64(n))[8-size:] }

// behind are the bytes of numbers of one size, one behind another.
func behind(size int, l ...int) []byte {
	var b []byte
	for _, n := range l {
		b = append(b, wide(n, size)...)
	}
	return b
}

// listed is a list as chapter 8 has it.
func listed[T any](l []T, element func(T) []byte) []byte {
	b := wide(len(l), 2)
	for _, x := range l {
		b = append(b, element(x)...)
	}
	return b
}

func tokenBytes(s string) []byte { return []byte(s) }

func slowTap(s *slow) api.Tap {
	return api.Tap{Device: s.number(2), Counter: s.number(4), Token: s.token(), Kind: s.number(1), Place: s.number(2), Time: s.number(4)}
}

func tapBytes(t api.Tap) []byte {
	return slices.Concat(wide(t.Device, 2), wide(t.Counter, 4), []byte(t.Token), wide(t.Kind, 1), wide(t.Place, 2), wide(t.Time, 4))
}

func slowDelta(s *slow) api.Delta {
	d := api.Delta{Version: s.number(8)}
	s.list(1000, func() { d.Add = append(d.Add, s.token()) })
	s.list(1000, func() { d.Gone = append(d.Gone, s.token()) })
	return d
}

func deltaBytes(d api.Delta) []byte {
	return slices.Concat(wide(d.Version, 8), listed(d.Add, tokenBytes), listed(d.Gone, tokenBytes))
}

func slowEntry(s *slow) api.Entry {
	return api.Entry{Run: s.number(4), Token: s.token(), Amount: s.amount(), Paid: s.truth()}
}

func entryBytes(e api.Entry) []byte {
	paid := byte(0)
	if e.Paid {
		paid = 1
	}
	return append(slices.Concat(wide(e.Run, 4), []byte(e.Token), wide(e.Amount, 8)), paid)
}

func slowAccount(s *slow) api.Account {
	return api.Account{Token: s.token(), Charged: s.number(8), Paid: s.number(8)}
}

func accountBytes(a api.Account) []byte {
	return slices.Concat([]byte(a.Token), wide(a.Charged, 8), wide(a.Paid, 8))
}

func slowOutages(s *slow) []api.Outage {
	var l []api.Outage
	s.list(100, func() { l = append(l, api.Outage{Station: s.number(2), From: s.number(4), To: s.number(4)}) })
	return l
}

func outagesBytes(l []api.Outage) []byte {
	return listed(l, func(o api.Outage) []byte { return slices.Concat(wide(o.Station, 2), wide(o.From, 4), wide(o.To, 4)) })
}

func slowTariff(s *slow) api.Tariff {
	var t api.Tariff
	s.list(200, func() {
		t.Stations = append(t.Stations, api.Station{Id: s.number(2), Zone: s.number(1), Group: s.number(2)})
	})
	s.list(45, func() {
		t.Spans = append(t.Spans, api.Span{From: s.number(1), To: s.number(1), Single: s.number(4), Daily: s.number(4), Weekly: s.number(4)})
	})
	s.list(8, func() { t.Peak = append(t.Peak, api.Band{From: s.number(2), To: s.number(2)}) })
	t.Off = s.rate()
	t.Bus, t.BusDaily, t.BusWeekly = s.number(4), s.number(4), s.number(4)
	t.Hopper = s.number(2)
	t.Most = s.number(4)
	t.Longest, t.Change, t.Passback, t.Delay = s.number(2), s.number(2), s.number(2), s.number(2)
	t.Threshold = s.number(4)
	return t
}

func tariffBytes(t api.Tariff) []byte {
	stations := listed(t.Stations, func(s api.Station) []byte { return slices.Concat(wide(s.Id, 2), wide(s.Zone, 1), wide(s.Group, 2)) })
	spans := listed(t.Spans, func(s api.Span) []byte {
		return slices.Concat(behind(1, s.From, s.To), behind(4, s.Single, s.Daily, s.Weekly))
	})
	bands := listed(t.Peak, func(b api.Band) []byte { return behind(2, b.From, b.To) })
	off := binary.BigEndian.AppendUint64(nil, math.Float64bits(t.Off))
	rest := slices.Concat(behind(4, t.Bus, t.BusDaily, t.BusWeekly), wide(t.Hopper, 2), wide(t.Most, 4), behind(2, t.Longest, t.Change, t.Passback, t.Delay), wide(t.Threshold, 4))
	return slices.Concat(stations, spans, bands, off, rest)
}

func wrongUnless(is bool) api.Errno {
	if !is {
		return api.ErrRecord
	}
	return api.OK
}

func tapWrong(t api.Tap) api.Errno {
	last, has := map[int]int{1: 65535, 2: 65535, 3: 1000}[t.Kind]
	return wrongUnless(has && t.Device > 0 && t.Device < 1<<16 && t.Counter > 0 && t.Counter < 1<<32 && len(t.Token) == 8 && t.Place > 0 && !(t.Place > last) && !(t.Time < 0) && !(t.Time > 1<<31))
}

func deltaWrong(d api.Delta) api.Errno {
	seen := map[string]int{}
	right := d.Version > 0 && len(d.Add) < 1001 && len(d.Gone) < 1001
	for _, l := range [][]string{d.Add, d.Gone} {
		for _, s := range l {
			seen[s]++
			right = right && len(s) == 8 && seen[s] == 1
		}
		right = right && slices.IsSorted(l)
	}
	return wrongUnless(right)
}

func entryWrong(e api.Entry) api.Errno {
	amount := e.Amount != 0 && !(e.Amount < -1<<53) && !(e.Amount > 1<<53)
	return wrongUnless(amount && e.Run > 0 && !(e.Run > 1<<31) && len(e.Token) == 8)
}

func accountWrong(a api.Account) api.Errno {
	return wrongUnless(len(a.Token) == 8 && !(a.Paid < 0) && !(a.Paid > a.Charged) && !(a.Charged > 1<<53))
}

func outagesWrong(l []api.Outage) api.Errno {
	right := len(l) < 101
	for _, o := range l {
		right = right && o.Station > 0 && o.Station < 1<<16 && !(o.From < 0) && !(o.To > 1<<31) && o.From < o.To
	}
	return wrongUnless(right)
}

// tariffWrong is the layer below: the chapter says no more.
func tariffWrong(t api.Tariff) api.Errno { return tariff.Right(t) }
