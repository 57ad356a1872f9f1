package record_test

import (
	"fmt"
	"math"
	"math/rand"
	"reflect"
	"slices"
	"sort"
	"testing"

	"farebox/api"
	"farebox/record"
)

// kind is one of record, whichever it is: what the program does of it, and what the chapter says of it, told slowly.
type kind struct {
	name  string
	write func(x any) ([]byte, api.Errno)
	read  func(b []byte) (any, api.Fault)

	zero  any
	bytes func(x any) []byte
	take  func(s *slow) any
	wrong func(x any) api.Errno
	some  func(rnd *rand.Rand) any // any that may be
}

// told is what the chapter says of a kind.
type told[T any] struct {
	bytes func(T) []byte
	take  func(*slow) T
	wrong func(T) api.Errno
	some  func(*rand.Rand) T
}

func kindOf[T any](name string, write func(T) ([]byte, api.Errno), read func([]byte) (T, api.Fault), x told[T]) kind {
	var zero T
	return kind{
		name:  name,
		write: func(a any) ([]byte, api.Errno) { return write(a.(T)) },
		read:  func(b []byte) (any, api.Fault) { return read(b) },
		zero:  zero,
		bytes: func(a any) []byte { return x.bytes(a.(T)) },
		take:  func(s *slow) any { return x.take(s) },
		wrong: func(a any) api.Errno { return x.wrong(a.(T)) },
		some:  func(rnd *rand.Rand) any { return x.some(rnd) },
	}
}

func taps() kind {
	return kindOf("a tap", record.Tap, record.ReadTap, told[api.Tap]{tapBytes, slowTap, tapWrong, someTap})
}

func deltas() kind {
	return kindOf("a delta", record.Delta, record.ReadDelta, told[api.Delta]{deltaBytes, slowDelta, deltaWrong, someDelta})
}

func entries() kind {
	return kindOf("an entry", record.Entry, record.ReadEntry, told[api.Entry]{entryBytes, slowEntry, entryWrong, someEntry})
}

func accounts() kind {
	return kindOf("an account", record.Account, record.ReadAccount, told[api.Account]{accountBytes, slowAccount, accountWrong, someAccount})
}

func outages() kind {
	return kindOf("outages", record.Outages, record.ReadOutages, told[[]api.Outage]{outagesBytes, slowOutages, outagesWrong, someOutages})
}

func tariffs() kind {
	return kindOf("a tariff", record.Tariff, record.ReadTariff, told[api.Tariff]{tariffBytes, slowTariff, tariffWrong, someTariff})
}

func kinds() []kind { return []kind{taps(), deltas(), entries(), accounts(), outages(), tariffs()} }

// slowRead is P8.2.
func (k kind) slowRead(b []byte) (any, api.Fault) {
	s := &slow{given: b}
	x := k.take(s)
	if f := s.end(); f.Code != api.OK {
		return k.zero, f
	}
	if e := k.wrong(x); e != api.OK {
		return k.zero, api.Fault{Code: e, At: -1}
	}
	return x, api.Fault{}
}

// tariffBits is a tariff whose rate is held against others by its bits.
type tariffBits struct {
	t    api.Tariff
	bits uint64
}

// tidy is a record that can be compared: a nil list and an empty one are the same (W5).
func tidy(x any) any {
	switch x := x.(type) {
	case api.Delta:
		x.Add, x.Gone = anew(x.Add), anew(x.Gone)
		return x
	case []api.Outage:
		return anew(x)
	case api.Tariff:
		bits := math.Float64bits(x.Off)
		x.Stations, x.Spans, x.Peak, x.Off = anew(x.Stations), anew(x.Spans), anew(x.Peak), 0
		return tariffBits{x, bits}
	}
	return x
}

// anew is a list in memory of its own.
func anew[T any](l []T) []T { return append([]T(nil), l...) }

func isSame(a, b any) bool { return reflect.DeepEqual(tidy(a), tidy(b)) }

// short is a record or bytes in words, cut where they are many.
func short(x any) string {
	s := fmt.Sprint(x)
	return s[:min(len(s), 300)]
}

func (k kind) wantRead(t *testing.T, what string, b []byte, want any, wantF api.Fault) {
	t.Helper()
	if got, f := k.read(b); f != wantF || !isSame(got, want) {
		t.Errorf("%s, %s: read %s, {%d %d}, not %s, {%d %d}", k.name, what, short(got), f.Code, f.At, short(want), wantF.Code, wantF.At)
	}
}

func (k kind) wantFault(t *testing.T, what string, b []byte, e api.Errno, at int) {
	t.Helper()
	k.wantRead(t, what, b, k.zero, api.Fault{Code: e, At: at})
}

// wantAsTold reads bytes, whatever they are; what is read is written as those bytes (P8.4).
func (k kind) wantAsTold(t *testing.T, what string, b []byte) bool {
	t.Helper()
	want, f := k.slowRead(b)
	k.wantRead(t, what, b, want, f)
	if f.Code == api.OK {
		k.wantBytes(t, what, want, b)
	}
	return f.Code == api.OK
}

func (k kind) wantBytes(t *testing.T, what string, x any, want []byte) {
	t.Helper()
	if got, e := k.write(x); e != api.OK || !slices.Equal(got, want) {
		t.Errorf("%s, %s: %s is written as %s, %d, not as %s", k.name, what, short(x), short(got), e, short(want))
	}
}

// wantGood is what holds of a record that may be: P8.1 and P8.4.
func (k kind) wantGood(t *testing.T, what string, x any) {
	t.Helper()
	if e := k.wrong(x); e != api.OK {
		t.Errorf("%s, %s: the test has it wrong", k.name, what)
	}
	b := k.bytes(x)
	k.wantBytes(t, what, x, b)
	k.wantRead(t, what, b, x, api.Fault{})
}

// wantWrong is what holds of one that may not be; fits tells whether its pieces can be taken all the same.
func (k kind) wantWrong(t *testing.T, what string, x any, e api.Errno, fits bool) {
	t.Helper()
	if k.wrong(x) != e {
		t.Errorf("%s, %s: the test has it wrong", k.name, what)
	}
	if b, got := k.write(x); got != e || len(b) != 0 {
		t.Errorf("%s, %s: written as %s, %d, not refused by %d", k.name, what, short(b), got, e)
	}
	if fits {
		k.wantFault(t, what, k.bytes(x), e, -1)
	}
}

func someToken(rnd *rand.Rand) string {
	b := make([]byte, 8)
	if rnd.Intn(3) > 0 {
		rnd.Read(b)
	}
	return string(b)
}

// upTo is a number from 1 to most, great or small.
func upTo(rnd *rand.Rand, most int) int {
	switch rnd.Intn(6) {
	case 0:
		return 1
	case 1:
		return most
	case 2:
		return min(most, 1+rnd.Intn(300))
	}
	return 1 + rnd.Intn(most)
}

func someTap(rnd *rand.Rand) api.Tap {
	kind := 1 + rnd.Intn(3)
	last := 65535
	if kind == 3 {
		last = 1000
	}
	return api.Tap{Device: upTo(rnd, 65535), Counter: upTo(rnd, 1<<32-1), Token: someToken(rnd), Kind: kind, Place: upTo(rnd, last), Time: upTo(rnd, 1<<31+1) - 1}
}

// someTokens are so many, rising.
func someTokens(rnd *rand.Rand, n int) []string {
	seen := map[string]int{}
	for len(seen) < n {
		b := make([]byte, 8)
		rnd.Read(b[rnd.Intn(7):])
		seen[string(b)]++
	}
	var l []string
	for s := range seen {
		l = append(l, s)
	}
	sort.Strings(l)
	return l
}

// someDelta deals rising tokens out to two lists.
func someDelta(rnd *rand.Rand) api.Delta {
	d := api.Delta{Version: upTo(rnd, math.MaxInt)}
	share := rnd.Intn(5)
	for _, s := range someTokens(rnd, rnd.Intn(12)) {
		if rnd.Intn(4) < share {
			d.Add = append(d.Add, s)
		} else {
			d.Gone = append(d.Gone, s)
		}
	}
	return d
}

func someEntry(rnd *rand.Rand) api.Entry {
	amount := upTo(rnd, 1<<53)
	if rnd.Intn(2) == 0 {
		amount = -amount
	}
	return api.Entry{Run: upTo(rnd, 1<<31), Token: someToken(rnd), Amount: amount, Paid: rnd.Intn(2) == 0}
}

func someAccount(rnd *rand.Rand) api.Account {
	charged := upTo(rnd, 1<<53+1) - 1
	return api.Account{Token: someToken(rnd), Charged: charged, Paid: upTo(rnd, charged+1) - 1}
}

func someOutages(rnd *rand.Rand) []api.Outage {
	l := make([]api.Outage, rnd.Intn(8))
	for i := range l {
		to := upTo(rnd, 1<<31)
		l[i] = api.Outage{Station: upTo(rnd, 65535), From: upTo(rnd, to) - 1, To: to}
	}
	return l
}

// zoned is a tariff of so many zones without stations, each zone with a weight; a span costs what its zones weigh, so that one within is no dearer.
func zoned(zones int, weight func() int) api.Tariff {
	p := api.Tariff{Longest: 1}
	weights := make([][3]int, zones+1)
	for i := range weights {
		weights[i] = [3]int{weight(), weight(), weight()}
	}
	for from := 1; from <= zones; from++ {
		s := api.Span{From: from}
		for s.To = from; s.To <= zones; s.To++ {
			s.Single, s.Daily, s.Weekly = s.Single+weights[s.To][0], s.Daily+weights[s.To][1], s.Weekly+weights[s.To][2]
			p.Spans = append(p.Spans, s)
		}
	}
	return p
}

func someTariff(rnd *rand.Rand) api.Tariff {
	zones := 1 + rnd.Intn(9)
	p := zoned(zones, func() int { return rnd.Intn(1<<20/9+1) >> rnd.Intn(17) })
	for id := upTo(rnd, 60000); id <= 65535 && len(p.Stations) < 12; id += 1 + rnd.Intn(5000) {
		p.Stations = append(p.Stations, api.Station{Id: id, Zone: 1 + rnd.Intn(zones), Group: rnd.Intn(65536) * rnd.Intn(2)})
	}
	p.Stations[rnd.Intn(len(p.Stations))].Zone = zones
	cuts := rnd.Perm(1441)[:2*rnd.Intn(9)]
	sort.Ints(cuts)
	for i := 0; i < len(cuts); i += 2 {
		p.Peak = append(p.Peak, api.Band{From: cuts[i], To: cuts[i+1]})
	}
	p.Off = []float64{0, math.SmallestNonzeroFloat64, 0.1, 1.0 / 3, 0.5, math.Nextafter(1, 0), 1, rnd.Float64()}[rnd.Intn(8)]
	for _, n := range prices(&p) {
		*n = rnd.Intn(1<<20 + 1)
	}
	for _, n := range minutes(&p) {
		*n = upTo(rnd, 1440)
	}
	return p
}

// prices are the places of those that hang on no span.
func prices(p *api.Tariff) []*int {
	return []*int{&p.Bus, &p.BusDaily, &p.BusWeekly, &p.Most, &p.Threshold}
}

// minutes are the places of them, Longest ahead.
func minutes(p *api.Tariff) []*int {
	return []*int{&p.Longest, &p.Hopper, &p.Change, &p.Passback, &p.Delay}
}
