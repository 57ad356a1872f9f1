package record_test

import (
	"encoding/binary"
	"fmt"
	"math"
	"slices"
	"testing"

	"farebox/api"
)

// example is a tariff of two zones, all of whose numbers are unlike where they could be taken for each other.
func example() api.Tariff {
	return api.Tariff{
		Stations: []api.Station{{Id: 1, Zone: 1}, {Id: 258, Zone: 2, Group: 772}, {Id: 65535, Zone: 1, Group: 7}},
		Spans: []api.Span{
			{From: 1, To: 1, Single: 200, Daily: 500, Weekly: 2000},
			{From: 1, To: 2, Single: 300, Daily: 700, Weekly: 70000},
			{From: 2, To: 2, Single: 150, Daily: 501, Weekly: 2001},
		},
		Peak: []api.Band{{From: 390, To: 570}, {From: 960, To: 1140}},
		Off:  0.5, Bus: 175, BusDaily: 400, BusWeekly: 66000, Hopper: 60, Most: 900, Longest: 120, Change: 10, Passback: 5, Delay: 15, Threshold: 100,
	}
}

// exampleBytes are those of the example.
func exampleBytes() []byte {
	return slices.Concat(
		[]byte{0, 3, 0, 1, 1, 0, 0, 1, 2, 2, 3, 4, 255, 255, 1, 0, 7},
		[]byte{0, 3, 1, 1, 0, 0, 0, 200, 0, 0, 1, 244, 0, 0, 7, 208},
		[]byte{1, 2, 0, 0, 1, 44, 0, 0, 2, 188, 0, 1, 17, 112},
		[]byte{2, 2, 0, 0, 0, 150, 0, 0, 1, 245, 0, 0, 7, 209},
		[]byte{0, 2, 1, 134, 2, 58, 3, 192, 4, 116},
		[]byte{63, 224, 0, 0, 0, 0, 0, 0},
		[]byte{0, 0, 0, 175, 0, 0, 1, 144, 0, 1, 1, 208, 0, 60, 0, 0, 3, 132},
		[]byte{0, 120, 0, 10, 0, 5, 0, 15, 0, 0, 0, 100},
	)
}

// exampleStarts are where its pieces begin.
func exampleStarts() []int {
	l := []int{0, 2, 4, 5, 7, 9, 10, 12, 14, 15}
	for _, span := range []int{19, 33, 47} {
		l = append(l, span, span+1, span+2, span+6, span+10)
	}
	l = append(l, 17, 61, 63, 65, 67, 69, 71, 79, 83, 87, 91, 93, 97, 99, 101, 103, 105)
	slices.Sort(l)
	return l
}

// least is a tariff of no stations, in which all is as small as it may be.
func least() api.Tariff { return zoned(1, func() int { return 0 }) }

// greatest is one in which all is as great as it may be.
func greatest() api.Tariff {
	p := zoned(9, func() int { return 0 })
	for i := range p.Spans {
		p.Spans[i].Single, p.Spans[i].Daily, p.Spans[i].Weekly = 1<<20, 1<<20, 1<<20
	}
	for i := range 200 {
		p.Stations = append(p.Stations, api.Station{Id: 65535 - 199 + i, Zone: 9, Group: 65535})
	}
	for i := range 8 {
		p.Peak = append(p.Peak, api.Band{From: 1440 - 8 + i, To: 1440 - 7 + i})
	}
	p.Off = 1
	for _, n := range prices(&p) {
		*n = 1 << 20
	}
	for _, n := range minutes(&p) {
		*n = 1440
	}
	return p
}

// copied is a tariff in memory of its own.
func copied(p api.Tariff) api.Tariff {
	p.Stations, p.Spans, p.Peak = anew(p.Stations), anew(p.Spans), anew(p.Peak)
	return p
}

// P8.1, P8.2, P8.4: a tariff's bytes, piece by piece; the least one and the greatest one.
func TestTariff(t *testing.T) {
	k := tariffs()
	k.wantBytes(t, "the example", example(), exampleBytes())
	k.wantRead(t, "the example", exampleBytes(), example(), api.Fault{})
	k.wantGood(t, "the example", example())
	k.wantGood(t, "the least one", least())
	k.wantGood(t, "the greatest one", greatest())
	k.wantBytes(t, "the least one", least(), slices.Concat([]byte{0, 0, 0, 1, 1, 1}, make([]byte, 12+2+8+12+2+4), []byte{0, 1}, make([]byte, 10)))
	if b, _ := k.write(greatest()); len(b) != 2+200*5+2+45*14+2+8*4+8+12+2+4+8+4 {
		t.Error("the greatest one has", len(b))
	}
	empty := least()
	empty.Stations, empty.Peak = []api.Station{}, []api.Band{}
	k.wantBytes(t, "empty lists", empty, tariffBytes(least()))
	for zones := 1; zones <= 9; zones++ {
		p := zoned(zones, func() int { return zones })
		p.Stations = []api.Station{{Id: 1, Zone: zones}}
		k.wantGood(t, fmt.Sprint(zones, " zones"), p)
	}
}

// P8.2: a tariff's bytes, cut at every byte.
func TestTariffCut(t *testing.T) {
	b, starts := exampleBytes(), exampleStarts()
	for n := range b {
		i, is := slices.BinarySearch(starts, n)
		if !is {
			i--
		}
		tariffs().wantFault(t, fmt.Sprint(n, " bytes"), b[:n], api.ErrWireShort, starts[i])
	}
}

// P8.1, P8.2: rates go by their bits; those that are none are told by tariff.Right, but a NaN in another form by chapter 1.
func TestTariffRates(t *testing.T) {
	k, p := tariffs(), example()
	withBits := func(bits uint64) []byte {
		b := exampleBytes()
		binary.BigEndian.PutUint64(b[71:], bits)
		return b
	}
	for _, p.Off = range []float64{0, math.SmallestNonzeroFloat64, 0x1p-1022, 0.1, 1.0 / 3, math.Nextafter(0.5, 0), 0.5, math.Nextafter(0.5, 1), math.Nextafter(1, 0), 1} {
		k.wantBytes(t, fmt.Sprint("Off ", p.Off), p, withBits(math.Float64bits(p.Off)))
		k.wantGood(t, fmt.Sprint("Off ", p.Off), p)
	}
	for _, p.Off = range []float64{math.Copysign(0, -1), math.Inf(1), math.Inf(-1), math.Nextafter(1, 2), 1.5, 2, math.MaxFloat64, -math.MaxFloat64, -1, -0.5, -math.SmallestNonzeroFloat64, math.Float64frombits(0x7ff8000000000000)} {
		k.wantWrong(t, fmt.Sprint("Off ", p.Off), p, api.ErrRate, true)
	}
	for _, bits := range []uint64{0x7ff0000000000001, 0x7ff8000000000001, 0x7fffffffffffffff, 0xfff0000000000001, 0xfff8000000000000, 0xffffffffffffffff} {
		p.Off = math.Float64frombits(bits)
		k.wantWrong(t, fmt.Sprintf("Off %x", bits), p, api.ErrRate, false)
		k.wantFault(t, fmt.Sprintf("Off %x", bits), withBits(bits), api.ErrWireForm, 71)
		k.wantFault(t, fmt.Sprintf("Off %x, cut", bits), withBits(bits)[:80], api.ErrWireForm, 71)
		k.wantFault(t, fmt.Sprintf("Off %x, one more", bits), append(withBits(bits), 0), api.ErrWireForm, 71)
	}
}

// place is one of a tariff's numbers, and how many bytes it has.
type place struct {
	name string
	at   *int
	size int
}

func places(p *api.Tariff) []place {
	var l []place
	for i := range p.Stations {
		s := &p.Stations[i]
		l = append(l, place{"Id", &s.Id, 2}, place{"Zone", &s.Zone, 1}, place{"Group", &s.Group, 2})
	}
	for i := range p.Spans {
		s := &p.Spans[i]
		l = append(l, place{"From", &s.From, 1}, place{"To", &s.To, 1}, place{"Single", &s.Single, 4}, place{"Daily", &s.Daily, 4}, place{"Weekly", &s.Weekly, 4})
	}
	for i := range p.Peak {
		l = append(l, place{"From", &p.Peak[i].From, 2}, place{"To", &p.Peak[i].To, 2})
	}
	for _, n := range prices(p) {
		l = append(l, place{"a price", n, 4})
	}
	for _, n := range minutes(p) {
		l = append(l, place{"minutes", n, 2})
	}
	return l
}

// P8.1, P8.2: tariff.Right's word on each number at many edges, the least and the greatest int too; where it fits it is read with the same word.
func TestTariffNumbers(t *testing.T) {
	seen := map[api.Errno]int{}
	for _, p := range []api.Tariff{example(), least()} {
		for i, x := range places(&p) {
			before := *x.at
			for _, n := range append(far(), 0, 1, 2, 3, 9, 10, 120, 255, 256, 257, 570, 960, 1439, 1440, 1441, 65535, 65536, 65537, 1<<20-1, 1<<20, 1<<20+1, 1<<31, 1<<32-1, 1<<32) {
				*x.at = n
				what := fmt.Sprint("the place ", i, ", ", x.name, " ", n)
				e := tariffWrong(p)
				seen[e]++
				if e == api.OK {
					tariffs().wantGood(t, what, p)
				} else {
					tariffs().wantWrong(t, what, p, e, n >= 0 && n>>(8*x.size) == 0)
				}
			}
			*x.at = before
		}
	}
	if len(seen) != 3 || seen[api.OK] < 100 || seen[api.ErrMoney] < 100 || seen[api.ErrTariff] < 100 {
		t.Error("told:", seen)
	}
}

// P8.1, P8.2: chapter 7's errors, and which of them where more than one could be.
func TestTariffErrors(t *testing.T) {
	for _, x := range []struct {
		what string
		turn func(p *api.Tariff)
		want api.Errno
	}{
		{"Longest 0", func(p *api.Tariff) { p.Longest = 0 }, api.ErrTariff},
		{"Longest 1441", func(p *api.Tariff) { p.Longest = 1441 }, api.ErrTariff},
		{"Bus above MaxFare", func(p *api.Tariff) { p.Bus = 1<<20 + 1 }, api.ErrMoney},
		{"a span missing", func(p *api.Tariff) { p.Spans = p.Spans[:2] }, api.ErrTariff},
		{"no spans", func(p *api.Tariff) { p.Spans = nil }, api.ErrTariff},
		{"a span more", func(p *api.Tariff) { p.Spans = append(p.Spans, api.Span{From: 3, To: 3}) }, api.ErrTariff},
		{"one within is dearer", func(p *api.Tariff) { p.Spans[1].Single = 100 }, api.ErrTariff},
		{"an Id twice", func(p *api.Tariff) { p.Stations[1].Id = 1 }, api.ErrTariff},
		{"the Id 0", func(p *api.Tariff) { p.Stations[0].Id = 0 }, api.ErrTariff},
		{"bands over each other", func(p *api.Tariff) { p.Peak[1].From = 569 }, api.ErrTariff},
		{"Off -0", func(p *api.Tariff) { p.Off = math.Copysign(0, -1) }, api.ErrRate},
		{"Most ahead of Off", func(p *api.Tariff) { p.Off, p.Most = 2, 1<<20+1 }, api.ErrMoney},
		{"the stations ahead of Most", func(p *api.Tariff) { p.Stations[2].Zone, p.Most = 10, 1<<20+1 }, api.ErrTariff},
		{"Off ahead of Longest", func(p *api.Tariff) { p.Off, p.Longest = 2, 0 }, api.ErrRate},
		{"the bands ahead of Off", func(p *api.Tariff) { p.Off, p.Peak[0].To = 2, 390 }, api.ErrTariff},
		{"zero", func(p *api.Tariff) { *p = api.Tariff{} }, api.ErrTariff},
	} {
		p := example()
		x.turn(&p)
		tariffs().wantWrong(t, x.what, p, x.want, true)
	}
}

// P8.1, P8.2: lists at their most, and one above: written by tariff.Right's word, read by Count's.
func TestTariffCounts(t *testing.T) {
	k := tariffs()
	for _, x := range []struct {
		what string
		turn func(p *api.Tariff)
		at   int
	}{
		{"201 stations", func(p *api.Tariff) {
			p.Stations = append([]api.Station{{Id: 1, Zone: 1}}, p.Stations...)
		}, 0},
		{"46 spans", func(p *api.Tariff) { p.Spans = append(p.Spans, p.Spans[44]) }, 1002},
		{"9 bands", func(p *api.Tariff) { p.Peak = append([]api.Band{{From: 1, To: 2}}, p.Peak...) }, 1634},
	} {
		p := greatest()
		x.turn(&p)
		k.wantWrong(t, x.what, p, api.ErrTariff, false)
		b := tariffBytes(p)
		k.wantFault(t, x.what, b, api.ErrWireLong, x.at)
		k.wantFault(t, x.what+", not there", b[:x.at+2], api.ErrWireLong, x.at)
		k.wantFault(t, x.what+", half of a count", b[:x.at+1], api.ErrWireShort, x.at)
		b[x.at] = 255
		k.wantFault(t, x.what+", many more", b, api.ErrWireLong, x.at)
	}
	for _, n := range []int{65536, 65536 + 3, 100000} {
		p := example()
		p.Stations = make([]api.Station, n)
		k.wantWrong(t, fmt.Sprint(n, " stations"), p, api.ErrTariff, false)
		p = example()
		p.Spans = append(p.Spans, make([]api.Span, n-3)...)
		k.wantWrong(t, fmt.Sprint(n, " spans"), p, api.ErrTariff, false)
		p = example()
		p.Peak = append(p.Peak, make([]api.Band, n-2)...)
		k.wantWrong(t, fmt.Sprint(n, " bands"), p, api.ErrTariff, false)
	}
}
