package tariff_test

import (
	"fmt"
	"math"
	"math/rand"
	"slices"
	"testing"

	"farebox/api"
	"farebox/tariff"
)

func wantRight(t *testing.T, what string, p api.Tariff, want api.Errno) {
	t.Helper()
	if got := tariff.Right(p); got != want {
		t.Errorf("Right, %s: %d, not %d", what, got, want)
	}
}

// turned is a tariff that was changed in one way.
func turned(p api.Tariff, turn func(p *api.Tariff)) api.Tariff {
	p = apart(p)
	turn(&p)
	return p
}

func isFrom(n, from, to int) bool { return !(n < from) && !(n > to) }

// slowStations is the first of P7.1's looks, told as it stands there.
func slowStations(l []api.Station) bool {
	right := len(l) <= 200
	for i, s := range l {
		right = right && isFrom(s.Id, 1, 65535) && isFrom(s.Zone, 1, 9) && isFrom(s.Group, 0, 65535)
		right = right && (i == 0 || s.Id > l[i-1].Id)
	}
	return right
}

// slowZones is the second one, likewise: each span that there should be is there once, and they stand in order.
func slowZones(p api.Tariff) bool {
	z := 1
	for _, s := range p.Stations {
		if s.Zone > z {
			z = s.Zone
		}
	}
	seen := map[[2]int]int{}
	for i, s := range p.Spans {
		seen[[2]int{s.From, s.To}]++
		if i > 0 {
			ahead := p.Spans[i-1]
			if s.From < ahead.From || s.From == ahead.From && s.To <= ahead.To {
				return false
			}
		}
	}
	want := 0
	for from := 1; from <= z; from++ {
		for to := from; to <= z; to++ {
			want++
			if seen[[2]int{from, to}] != 1 {
				return false
			}
		}
	}
	return len(p.Spans) == want
}

func slowPrices(p api.Tariff) bool {
	l := []int{p.Bus, p.BusDaily, p.BusWeekly, p.Most, p.Threshold}
	for _, s := range p.Spans {
		l = append(l, s.Single, s.Daily, s.Weekly)
	}
	return !slices.ContainsFunc(l, func(n int) bool { return !isFrom(n, 0, maxFare) })
}

func slowWithin(l []api.Span) bool {
	for _, a := range l {
		for _, b := range l {
			if isIn(a, b) && (a.Single > b.Single || a.Daily > b.Daily || a.Weekly > b.Weekly) {
				return false
			}
		}
	}
	return true
}

func slowBands(l []api.Band) bool {
	right := len(l) <= 8
	for i, b := range l {
		right = right && !(b.From < 0) && !(b.To <= b.From) && !(b.To > 1440)
		right = right && (i == 0 || !(b.From < l[i-1].To))
	}
	return right
}

func slowRate(f float64) bool { return f >= 0 && f <= 1 && !math.Signbit(f) }

func slowMinutes(p api.Tariff) bool {
	return isFrom(p.Longest, 1, 1440) && isFrom(p.Hopper, 0, 1440) && isFrom(p.Change, 0, 1440) && isFrom(p.Passback, 0, 1440) && isFrom(p.Delay, 0, 1440)
}

// slowRight is P7.1.
func slowRight(p api.Tariff) api.Errno {
	for _, look := range []struct {
		right bool
		e     api.Errno
	}{
		{slowStations(p.Stations), api.ErrTariff}, {slowZones(p), api.ErrTariff}, {slowPrices(p), api.ErrMoney}, {slowWithin(p.Spans), api.ErrTariff},
		{slowBands(p.Peak), api.ErrTariff}, {slowRate(p.Off), api.ErrRate}, {slowMinutes(p), api.ErrTariff},
	} {
		if !look.right {
			return look.e
		}
	}
	return api.OK
}

// P7.1: the chapter's examples.
func TestRightOfTheChapter(t *testing.T) {
	for what, x := range map[string]struct {
		turn func(p *api.Tariff)
		want api.Errno
	}{
		"as it is":                      {func(p *api.Tariff) {}, api.OK},
		"Off NaN":                       {func(p *api.Tariff) { p.Off = math.NaN() }, api.ErrRate},
		"Off -0":                        {func(p *api.Tariff) { p.Off = minusZero }, api.ErrRate},
		"the second span's Single 100":  {func(p *api.Tariff) { p.Spans[1].Single = 100 }, api.ErrTariff},
		"without the third span":        {func(p *api.Tariff) { p.Spans = p.Spans[:2] }, api.ErrTariff},
		"Longest 0":                     {func(p *api.Tariff) { p.Longest = 0 }, api.ErrTariff},
		"Most -1":                       {func(p *api.Tariff) { p.Most = -1 }, api.ErrMoney},
		"all else not 0, but small":     {func(p *api.Tariff) { *p = ofTheWhole() }, api.OK},
		"no stations, all of two zones": {func(p *api.Tariff) { p.Stations = nil }, api.ErrTariff},
	} {
		wantRight(t, what, turned(ofTheChapter(), x.turn), x.want)
	}
	wantRight(t, "zero", api.Tariff{}, api.ErrTariff)
	for zones := 1; zones <= 9; zones++ {
		wantRight(t, fmt.Sprint(zones, " zones"), zoned(zones), api.OK)
	}
	if api.MaxFare != maxFare || api.MaxStations != 200 || api.MaxZones != 9 || api.MaxBands != 8 {
		t.Error("limits:", api.MaxFare, api.MaxStations, api.MaxZones, api.MaxBands)
	}
}

// oneZone is a tariff of one zone, with so many stations.
func oneZone(stations int) api.Tariff {
	p := zoned(1)
	p.Stations = nil
	for i := range stations {
		p.Stations = append(p.Stations, api.Station{Id: i + 1, Zone: 1})
	}
	return p
}

// P7.1, 1: no station at all (W5), one, MaxStations of them, one more, very many.
func TestHowManyStations(t *testing.T) {
	for n, want := range map[int]api.Errno{0: api.OK, 1: api.OK, 2: api.OK, 199: api.OK, 200: api.OK, 201: api.ErrTariff, 202: api.ErrTariff, 400: api.ErrTariff, 1 << 16: api.ErrTariff, 1 << 20: api.ErrTariff} {
		wantRight(t, fmt.Sprint(n, " stations"), oneZone(n), want)
	}
	empty := oneZone(0)
	empty.Stations = []api.Station{}
	wantRight(t, "an empty list", empty, api.OK)
	high := oneZone(200)
	for i := range high.Stations {
		high.Stations[i].Id = 65535 - 199 + i
	}
	wantRight(t, "the highest Ids", high, api.OK)
}

// P7.1, 1: what an Id may be, alone, first, in the middle and last.
func TestIds(t *testing.T) {
	for _, x := range []struct {
		ids  []int
		want api.Errno
	}{
		{[]int{1}, api.OK}, {[]int{65535}, api.OK}, {[]int{1, 65535}, api.OK}, {[]int{1, 2, 3}, api.OK}, {[]int{65533, 65534, 65535}, api.OK}, {[]int{5, 100, 40000}, api.OK},
		{[]int{0}, api.ErrTariff}, {[]int{-1}, api.ErrTariff}, {[]int{65536}, api.ErrTariff}, {[]int{math.MinInt}, api.ErrTariff}, {[]int{math.MaxInt}, api.ErrTariff}, {[]int{1<<32 + 1}, api.ErrTariff},
		{[]int{0, 1}, api.ErrTariff}, {[]int{0, 1, 2}, api.ErrTariff}, {[]int{-1, 1, 2}, api.ErrTariff}, {[]int{math.MinInt, 1, 2}, api.ErrTariff},
		{[]int{1, 0, 2}, api.ErrTariff}, {[]int{1, 65536}, api.ErrTariff}, {[]int{1, 2, 65536}, api.ErrTariff}, {[]int{65535, 65536}, api.ErrTariff}, {[]int{1, 65536, 65537}, api.ErrTariff}, {[]int{1, 2, math.MaxInt}, api.ErrTariff}, {[]int{1, math.MinInt, 2}, api.ErrTariff},
		{[]int{1, 1}, api.ErrTariff}, {[]int{65535, 65535}, api.ErrTariff}, {[]int{1, 2, 2}, api.ErrTariff}, {[]int{1, 1, 2}, api.ErrTariff}, {[]int{1, 2, 1}, api.ErrTariff},
		{[]int{2, 1}, api.ErrTariff}, {[]int{3, 2, 1}, api.ErrTariff}, {[]int{1, 3, 2}, api.ErrTariff}, {[]int{2, 1, 3}, api.ErrTariff}, {[]int{65535, 1}, api.ErrTariff},
	} {
		p := oneZone(len(x.ids))
		for i, id := range x.ids {
			p.Stations[i].Id = id
		}
		wantRight(t, fmt.Sprint("Ids ", x.ids), p, x.want)
	}
}

// P7.1, 1: Zones and Groups, of each station; the spans are those of so many zones, as far as there may be.
func TestZonesAndGroups(t *testing.T) {
	for at := range 3 {
		for zone, want := range map[int]api.Errno{0: api.ErrTariff, -1: api.ErrTariff, 1: api.OK, 2: api.OK, 8: api.OK, 9: api.OK, 10: api.ErrTariff, 11: api.ErrTariff, 255: api.ErrTariff, 1<<32 + 1: api.ErrTariff, math.MinInt: api.ErrTariff, math.MaxInt: api.ErrTariff} {
			p := oneZone(3)
			p.Spans = zoned(min(max(zone, 1), 12)).Spans
			p.Stations[at].Zone = zone
			wantRight(t, fmt.Sprint("station ", at, ", Zone ", zone), p, want)
		}
		for group, want := range map[int]api.Errno{0: api.OK, 1: api.OK, 65534: api.OK, 65535: api.OK, -1: api.ErrTariff, 65536: api.ErrTariff, 1 << 32: api.ErrTariff, math.MinInt: api.ErrTariff, math.MaxInt: api.ErrTariff} {
			p := oneZone(3)
			p.Stations[at].Group = group
			wantRight(t, fmt.Sprint("station ", at, ", Group ", group), p, want)
		}
	}
	p := oneZone(3)
	for i := range p.Stations {
		p.Stations[i].Group = 9
	}
	wantRight(t, "all of one group", p, api.OK)
}

// P7.1, 2: spans that are missing, doubled, in another order, too many, of other zones; of each number of zones.
func TestSpansAreAll(t *testing.T) {
	for zones := 1; zones <= 9; zones++ {
		p := zoned(zones)
		wantSpans := func(what string, l []api.Span) {
			t.Helper()
			wantRight(t, fmt.Sprint(zones, " zones, ", what), turned(p, func(p *api.Tariff) { p.Spans = l }), api.ErrTariff)
		}
		for i, s := range p.Spans {
			wantSpans(fmt.Sprint("span ", i, " missing"), slices.Delete(slices.Clone(p.Spans), i, i+1))
			wantSpans(fmt.Sprint("span ", i, " doubled"), slices.Insert(slices.Clone(p.Spans), i, s))
			wantSpans(fmt.Sprint("span ", i, " again at the end"), append(slices.Clone(p.Spans), s))
			for k := range i {
				l := slices.Clone(p.Spans)
				l[i], l[k] = l[k], l[i]
				wantSpans(fmt.Sprint("spans ", k, " and ", i, " changed about"), l)
				l[i] = l[k]
				wantSpans(fmt.Sprint("span ", k, " is ", i), l)
			}
		}
		for _, other := range []int{zones - 1, zones + 1, zones + 2} {
			if other != 1 || zones != 1 {
				wantSpans(fmt.Sprint("spans of ", other), zoned(other).Spans)
			}
		}
		wantSpans("none", nil)
		wantSpans("an empty list", []api.Span{})
		wantSpans("one of no zone ahead", slices.Insert(slices.Clone(p.Spans), 0, api.Span{}))
		wantSpans("one of no zone behind", append(slices.Clone(p.Spans), api.Span{}))
		wantSpans("one beyond behind", append(slices.Clone(p.Spans), api.Span{From: zones + 1, To: zones + 1, Single: 10, Daily: 30, Weekly: 100}))
		wantSpans("one that goes beyond", append(slices.Clone(p.Spans), api.Span{From: zones, To: zones + 1, Single: maxFare, Daily: maxFare, Weekly: maxFare}))
	}
}

// P7.1, 2: other zones in each span; From above To; by rising To first.
func TestSpansOfOtherZones(t *testing.T) {
	for _, zones := range []int{1, 2, 3, 9} {
		p := zoned(zones)
		for i, s := range p.Spans {
			for _, n := range []int{math.MinInt, -1, 0, s.From - 1, s.From + 1, s.To - 1, s.To + 1, 10, 1<<32 + s.From, 1<<32 + s.To, math.MaxInt} {
				if n != s.From {
					wantRight(t, fmt.Sprint(s, ": From ", n), turned(p, func(p *api.Tariff) { p.Spans[i].From = n }), api.ErrTariff)
				}
				if n != s.To {
					wantRight(t, fmt.Sprint(s, ": To ", n), turned(p, func(p *api.Tariff) { p.Spans[i].To = n }), api.ErrTariff)
				}
			}
			if s.From != s.To {
				wantRight(t, fmt.Sprint(s, " turned"), turned(p, func(p *api.Tariff) { p.Spans[i].From, p.Spans[i].To = s.To, s.From }), api.ErrTariff)
			}
		}
	}
	p := zoned(3)
	slices.SortStableFunc(p.Spans, func(a, b api.Span) int { return a.To - b.To })
	wantRight(t, "by rising To", p, api.ErrTariff)
	p = zoned(3)
	slices.Reverse(p.Spans)
	wantRight(t, "from the end", p, api.ErrTariff)
}

// P7.1, 2: it is the greatest Zone that counts, wherever its station stands, and though no station lies in the others.
func TestGreatestZone(t *testing.T) {
	for zones := 1; zones <= 9; zones++ {
		for at := range 4 {
			p := zoned(zones)
			p.Stations = oneZone(4).Stations
			p.Stations[at].Zone = zones
			wantRight(t, fmt.Sprint("station ", at, " in zone ", zones), p, api.OK)
		}
		p := zoned(zones)
		p.Stations = []api.Station{{Id: 1, Zone: zones}}
		wantRight(t, fmt.Sprint("all in zone ", zones), p, api.OK)
		p.Stations = nil
		want := api.ErrTariff
		if zones == 1 {
			want = api.OK
		}
		wantRight(t, fmt.Sprint("no stations, spans of ", zones), p, want)
	}
	p := zoned(1)
	p.Stations, p.Spans = nil, nil
	wantRight(t, "no stations, no spans", p, api.ErrTariff)
	p.Spans = []api.Span{{From: 0, To: 0}}
	wantRight(t, "no stations, the zone 0", p, api.ErrTariff)
	p.Spans = []api.Span{{From: 2, To: 2}}
	wantRight(t, "no stations, the zone 2", p, api.ErrTariff)
}

// P7.1, 3: prices at the limits and beyond, in each place.
func TestPrices(t *testing.T) {
	p := zoned(1)
	places := append(otherPrices(&p), priceFields(&p.Spans[0])...)
	for i, place := range places {
		before := *place
		for _, n := range []int{0, 1, 175, maxFare - 1, maxFare} {
			*place = n
			wantRight(t, fmt.Sprint("price ", i, " is ", n), p, api.OK)
		}
		for _, n := range notPrices() {
			*place = n
			wantRight(t, fmt.Sprint("price ", i, " is ", n), p, api.ErrMoney)
		}
		*place = before
	}
	if len(places) != 8 {
		t.Error("places:", len(places))
	}
}

// P7.1, 3: in each span of many zones.
func TestPricesOfSpans(t *testing.T) {
	p := zoned(9)
	for i := range p.Spans {
		for k, place := range priceFields(&p.Spans[i]) {
			before := *place
			for _, n := range notPrices() {
				*place = n
				wantRight(t, fmt.Sprint("span ", i, ", price ", k, " is ", n), p, api.ErrMoney)
			}
			*place = before
		}
	}
	for _, n := range []int{0, maxFare} {
		for i := range p.Spans {
			for _, place := range priceFields(&p.Spans[i]) {
				*place = n
			}
		}
		wantRight(t, fmt.Sprint("all are ", n), p, api.OK)
	}
}

// spansAt is a tariff whose spans have a price each in one field, the same one in the others.
func spansAt(zones, field int, price func(s api.Span) int) api.Tariff {
	p := zoned(zones)
	for i, s := range p.Spans {
		for k, place := range priceFields(&p.Spans[i]) {
			*place = 500
			if k == field {
				*place = price(s)
			}
		}
	}
	return p
}

// wantPairs is P7.1, 4 of two spans, s within outer: of all others none is broken, but such as lie between the two.
func wantPairs(t *testing.T, zones, field int, s, outer api.Span) {
	t.Helper()
	for _, x := range []struct {
		inner, outer int
		want         api.Errno
	}{{4, 5, api.OK}, {5, 5, api.OK}, {6, 5, api.ErrTariff}, {0, 0, api.OK}, {0, maxFare, api.OK}, {maxFare, maxFare, api.OK}, {maxFare, maxFare - 1, api.ErrTariff}, {1, 0, api.ErrTariff}, {maxFare, 0, api.ErrTariff}} {
		p := spansAt(zones, field, func(a api.Span) int {
			switch {
			case a.From == s.From && a.To == s.To:
				return x.inner
			case isIn(s, a) && isIn(a, outer):
				return x.outer
			case isIn(a, outer):
				return 0
			}
			return maxFare
		})
		wantRight(t, fmt.Sprint(zones, " zones, price ", field, ": ", s, " at ", x.inner, ", ", outer, " at ", x.outer), p, x.want)
	}
}

// P7.1, 4: of every two spans, one within the other one: equal, less and greater, in each field.
func TestWithin(t *testing.T) {
	for _, zones := range []int{2, 3, 5, 9} {
		for _, s := range zoned(zones).Spans {
			for _, outer := range zoned(zones).Spans {
				for field := range 3 {
					if isIn(s, outer) && s != outer {
						wantPairs(t, zones, field, s, outer)
					}
				}
			}
		}
	}
}

// P7.1, 4: of two of which none is within the other one each may be the dearer one, wider or not.
func TestNotWithin(t *testing.T) {
	for _, zones := range []int{2, 3, 9} {
		for _, a := range zoned(zones).Spans {
			for _, b := range zoned(zones).Spans {
				for field := range 3 {
					if isIn(a, b) {
						continue
					}
					p := spansAt(zones, field, func(s api.Span) int {
						if isIn(s, b) {
							return 3
						}
						return 4
					})
					wantRight(t, fmt.Sprint(a, " dearer than ", b), p, api.OK)
				}
			}
		}
	}
	p := ofTheChapter()
	p.Spans[0], p.Spans[2] = api.Span{From: 1, To: 1, Single: 300, Daily: 10, Weekly: 2800}, api.Span{From: 2, To: 2, Single: 0, Daily: 700, Weekly: 5}
	wantRight(t, "fields hang on no other ones", p, api.OK)
	p.Spans[1] = api.Span{From: 1, To: 2, Single: 300, Daily: 7, Weekly: 3}
	p.Spans[0], p.Spans[2] = api.Span{From: 1, To: 1, Single: 300, Daily: 7, Weekly: 3}, api.Span{From: 2, To: 2, Single: 300, Daily: 7, Weekly: 3}
	wantRight(t, "a week for less than a day", p, api.OK)
}

// P7.1, 5: bands that may be and that may not.
func TestBands(t *testing.T) {
	for _, x := range []struct {
		l    []api.Band
		want api.Errno
	}{
		{nil, api.OK}, {[]api.Band{}, api.OK}, {[]api.Band{{From: 0, To: 1}}, api.OK}, {[]api.Band{{From: 0, To: 1440}}, api.OK}, {[]api.Band{{From: 1439, To: 1440}}, api.OK}, {[]api.Band{{From: 390, To: 570}}, api.OK},
		{[]api.Band{{From: 0, To: 0}}, api.ErrTariff}, {[]api.Band{{From: 5, To: 5}}, api.ErrTariff}, {[]api.Band{{From: 1440, To: 1440}}, api.ErrTariff}, {[]api.Band{{From: 570, To: 390}}, api.ErrTariff}, {[]api.Band{{From: 1, To: 0}}, api.ErrTariff},
		{[]api.Band{{From: -1, To: 1}}, api.ErrTariff}, {[]api.Band{{From: -1, To: 0}}, api.ErrTariff}, {[]api.Band{{From: -5, To: -3}}, api.ErrTariff}, {[]api.Band{{From: math.MinInt, To: 5}}, api.ErrTariff}, {[]api.Band{{From: math.MinInt, To: math.MaxInt}}, api.ErrTariff},
		{[]api.Band{{From: 0, To: 1441}}, api.ErrTariff}, {[]api.Band{{From: 1440, To: 1441}}, api.ErrTariff}, {[]api.Band{{From: 1441, To: 1500}}, api.ErrTariff}, {[]api.Band{{From: 0, To: math.MaxInt}}, api.ErrTariff}, {[]api.Band{{From: math.MaxInt, To: math.MinInt}}, api.ErrTariff}, {[]api.Band{{From: 5, To: math.MinInt}}, api.ErrTariff},
		{[]api.Band{{From: 0, To: 10}, {From: 10, To: 20}}, api.OK}, {[]api.Band{{From: 0, To: 10}, {From: 11, To: 1440}}, api.OK}, {[]api.Band{{From: 0, To: 10}, {From: 9, To: 20}}, api.ErrTariff}, {[]api.Band{{From: 0, To: 10}, {From: 0, To: 10}}, api.ErrTariff}, {[]api.Band{{From: 0, To: 10}, {From: 2, To: 3}}, api.ErrTariff},
		{[]api.Band{{From: 20, To: 30}, {From: 0, To: 10}}, api.ErrTariff}, {[]api.Band{{From: 0, To: 10}, {From: 10, To: 10}}, api.ErrTariff}, {[]api.Band{{From: 0, To: 10}, {From: 20, To: 15}}, api.ErrTariff}, {[]api.Band{{From: 0, To: 1440}, {From: 1440, To: 1440}}, api.ErrTariff}, {[]api.Band{{From: 0, To: 1440}, {From: 1440, To: 1441}}, api.ErrTariff}, {[]api.Band{{From: 0, To: 10}, {From: 20, To: 1441}}, api.ErrTariff}, {[]api.Band{{From: 0, To: 10}, {From: -5, To: 20}}, api.ErrTariff}, {[]api.Band{{From: 0, To: 10}, {From: math.MinInt, To: 20}}, api.ErrTariff},
		{[]api.Band{{From: 0, To: 10}, {From: 10, To: 20}, {From: 5, To: 8}}, api.ErrTariff}, {[]api.Band{{From: 0, To: 100}, {From: 200, To: 300}, {From: 100, To: 200}}, api.ErrTariff}, {[]api.Band{{From: 0, To: 100}, {From: 100, To: 200}, {From: 200, To: 300}}, api.OK}, {[]api.Band{{From: -1, To: 1}, {From: 5, To: 9}}, api.ErrTariff},
	} {
		p := ofTheChapter()
		p.Peak = x.l
		wantRight(t, fmt.Sprint("bands ", x.l), p, x.want)
	}
}

// P7.1, 5: no band, MaxBands of them, one more, very many; that meet, and that do not.
func TestHowManyBands(t *testing.T) {
	for _, long := range []int{1, 2} {
		for n, want := range map[int]api.Errno{0: api.OK, 1: api.OK, 2: api.OK, 7: api.OK, 8: api.OK, 9: api.ErrTariff, 10: api.ErrTariff, 256: api.ErrTariff, 500: api.ErrTariff} {
			p := ofTheChapter()
			for i := range n {
				p.Peak = append(p.Peak, api.Band{From: 2 * i, To: 2*i + long})
			}
			wantRight(t, fmt.Sprint(n, " bands"), p, want)
		}
	}
}

// P7.1, 6: Off, told by its bits.
func TestOff(t *testing.T) {
	p := ofTheChapter()
	for _, p.Off = range someRates() {
		wantRight(t, fmt.Sprint("Off ", p.Off), p, api.OK)
	}
	for _, p.Off = range notRates() {
		wantRight(t, fmt.Sprintf("Off %x", math.Float64bits(p.Off)), p, api.ErrRate)
	}
}

// P7.1, 7: minutes; only Longest may not be 0.
func TestMinutes(t *testing.T) {
	p := ofTheWhole()
	for i, place := range minuteFields(&p) {
		before := *place
		for _, n := range []int{1, 2, 60, 1439, 1440} {
			*place = n
			wantRight(t, fmt.Sprint("minutes ", i, " are ", n), p, api.OK)
		}
		for _, n := range []int{-1, -2, -1440, 1441, 1442, 1<<32 + 1, math.MinInt, math.MinInt + 1, math.MaxInt, math.MaxInt - 1} {
			*place = n
			wantRight(t, fmt.Sprint("minutes ", i, " are ", n), p, api.ErrTariff)
		}
		*place = 0
		want := api.OK
		if i == 0 {
			want = api.ErrTariff
		}
		wantRight(t, fmt.Sprint("minutes ", i, " are 0"), p, want)
		*place = before
	}
}

// breaks are, for each look of P7.1, ways in which it is broken and no other one is.
func breaks() [][]func(p *api.Tariff) {
	return [][]func(p *api.Tariff){
		{func(p *api.Tariff) { p.Stations[0].Id = 0 }, func(p *api.Tariff) { p.Stations[1].Group = -1 }, func(p *api.Tariff) { p.Stations[2].Id = p.Stations[1].Id }, func(p *api.Tariff) { p.Stations[2].Zone = 0 }, func(p *api.Tariff) { p.Stations[1].Id = 65536 }},
		{func(p *api.Tariff) { p.Spans[0].To = 3 }, func(p *api.Tariff) { p.Spans = p.Spans[:2] }, func(p *api.Tariff) { p.Spans[2].From = 0 }},
		{func(p *api.Tariff) { p.Threshold = -1 }, func(p *api.Tariff) { p.Bus = maxFare + 1 }, func(p *api.Tariff) { p.Spans[1].Weekly = maxFare + 1 }},
		{func(p *api.Tariff) { p.Spans[0].Single = 301 }, func(p *api.Tariff) { p.Spans[0].Daily = 701 }, func(p *api.Tariff) { p.Spans[0].Weekly = maxFare }},
		{func(p *api.Tariff) { p.Peak[0].From = -1 }, func(p *api.Tariff) { p.Peak[0].To = 1441 }, func(p *api.Tariff) { p.Peak[0].To = p.Peak[0].From }, func(p *api.Tariff) { p.Peak = make([]api.Band, 9) }},
		{func(p *api.Tariff) { p.Off = math.NaN() }, func(p *api.Tariff) { p.Off = minusZero }, func(p *api.Tariff) { p.Off = 2 }},
		{func(p *api.Tariff) { p.Longest = 0 }, func(p *api.Tariff) { p.Delay = -1 }, func(p *api.Tariff) { p.Hopper = 1441 }},
	}
}

// P7.1, W4: of several errors the first one is told: all ways of choosing among the looks, each broken in any of its ways.
func TestWhichError(t *testing.T) {
	errors := []api.Errno{api.ErrTariff, api.ErrTariff, api.ErrMoney, api.ErrTariff, api.ErrTariff, api.ErrRate, api.ErrTariff}
	rnd := rand.New(rand.NewSource(71))
	for range 20 {
		for chosen := range 1 << len(errors) {
			p := apart(ofTheWhole())
			want := api.OK
			for look := len(errors) - 1; look >= 0; look-- {
				if chosen>>look&1 == 1 {
					ways := breaks()[look]
					ways[rnd.Intn(len(ways))](&p)
					want = errors[look]
				}
			}
			wantRight(t, fmt.Sprintf("looks %07b broken: %v", chosen, p), p, want)
		}
	}
}

// P7.1: numbers at the very ends in all places.
func TestRightOfAnyInts(t *testing.T) {
	for _, n := range []int{math.MinInt, math.MaxInt} {
		s, span, band := api.Station{Id: n, Zone: n, Group: n}, api.Span{From: n, To: n, Single: n, Daily: n, Weekly: n}, api.Band{From: n, To: n}
		p := api.Tariff{Stations: []api.Station{s}, Spans: []api.Span{span}, Peak: []api.Band{band}, Bus: n, BusDaily: n, BusWeekly: n, Hopper: n, Most: n, Longest: n, Change: n, Passback: n, Delay: n, Threshold: n}
		wantRight(t, fmt.Sprint("all are ", n), p, api.ErrTariff)
		p.Stations, p.Spans = nil, zoned(1).Spans
		wantRight(t, fmt.Sprint("all but the spans are ", n), p, api.ErrMoney)
	}
}

// poke sets a place of a tariff to a number near which a rule changes.
func poke(rnd *rand.Rand, p *api.Tariff) {
	places := append(otherPrices(p), minuteFields(p)...)
	if len(p.Stations) > 0 {
		s := &p.Stations[rnd.Intn(len(p.Stations))]
		places = append(places, &s.Id, &s.Zone, &s.Group)
	}
	if len(p.Spans) > 0 {
		s := &p.Spans[rnd.Intn(len(p.Spans))]
		places = append(places, &s.From, &s.To, &s.Single, &s.Daily, &s.Weekly)
	}
	if len(p.Peak) > 0 {
		b := &p.Peak[rnd.Intn(len(p.Peak))]
		places = append(places, &b.From, &b.To)
	}
	values := []int{math.MinInt, -1, 0, 1, 2, 9, 10, 500, 1440, 1441, 65535, 65536, maxFare, maxFare + 1, math.MaxInt}
	switch rnd.Intn(12) {
	case 0:
		p.Off = notRates()[rnd.Intn(len(notRates()))]
	case 1:
		p.Spans = p.Spans[:rnd.Intn(len(p.Spans)+1)]
	case 2:
		p.Stations = p.Stations[:rnd.Intn(len(p.Stations)+1)]
	case 3:
		p.Peak = append(p.Peak, api.Band{From: rnd.Intn(1441), To: rnd.Intn(1442)})
	default:
		*places[rnd.Intn(len(places))] += values[rnd.Intn(5)]
		*places[rnd.Intn(len(places))] = values[rnd.Intn(len(values))]
	}
}

// P7.1: tariffs that may be, and such as were changed in a few places.
func TestRightOfMany(t *testing.T) {
	rnd := rand.New(rand.NewSource(72))
	told := map[api.Errno]int{}
	for range 20000 {
		p := anyRight(rnd)
		wantRight(t, fmt.Sprint("one that may be: ", p), p, api.OK)
		for range rnd.Intn(3) {
			poke(rnd, &p)
		}
		want := slowRight(p)
		told[want]++
		wantRight(t, fmt.Sprint(p), p, want)
	}
	if len(told) != 4 {
		t.Error("not all answers were looked for:", told)
	}
}
