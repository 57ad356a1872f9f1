package tariff

import (
	"slices"

	"farebox/api"
	"farebox/money"
)

const (
	maxNumber  = 1<<16 - 1 // of an Id, and of a Group
	dayMinutes = 24 * 60
)

// Right tells whether a tariff may be. The first look at which it may not gives the tariff up, so the order of the looks is that of the errors.
func Right(t api.Tariff) (e api.Errno) {
	defer func() {
		if told, is := recover().(api.Errno); is {
			e = told
		}
	}()
	lookAtStations(t.Stations)
	lookAtZones(t)
	lookAtPrices(t)
	lookWithin(t.Spans)
	lookAtBands(t.Peak)
	must(money.Rate(t.Off), api.ErrRate)
	lookAtMinutes(t)
	return api.OK
}

// must gives a tariff up, to be caught at the edge of Right.
func must(is bool, otherwise api.Errno) {
	if !is {
		panic(otherwise)
	}
}

func lookAtStations(l []api.Station) {
	must(len(l) <= api.MaxStations, api.ErrTariff)
	ahead := 0
	for _, s := range l {
		must(s.Id > ahead && s.Id <= maxNumber, api.ErrTariff)
		must(s.Zone >= 1 && s.Zone <= api.MaxZones, api.ErrTariff)
		must(s.Group >= 0 && s.Group <= maxNumber, api.ErrTariff)
		ahead = s.Id
	}
}

// lookAtZones asks whether there is a span for any two zones, and none besides.
func lookAtZones(t api.Tariff) {
	all := bareSpans(greatestZone(t.Stations))
	must(slices.EqualFunc(t.Spans, all, func(s, wanted api.Span) bool { return bare(s) == wanted }), api.ErrTariff)
}

// greatestZone is 1, if there are no stations: there is a span even so.
func greatestZone(l []api.Station) int {
	zone := 1
	for _, s := range l {
		zone = max(zone, s.Zone)
	}
	return zone
}

// bareSpans are those of so many zones, in order.
func bareSpans(zones int) []api.Span {
	var l []api.Span
	for from := 1; from <= zones; from++ {
		for to := from; to <= zones; to++ {
			l = append(l, api.Span{From: from, To: to})
		}
	}
	return l
}

func lookAtPrices(t api.Tariff) {
	mustBePrices(t.Bus, t.BusDaily, t.BusWeekly, t.Most, t.Threshold)
	for _, s := range t.Spans {
		mustBePrices(s.Single, s.Daily, s.Weekly)
	}
}

func mustBePrices(prices ...int) {
	for _, n := range prices {
		must(isPrice(n), api.ErrMoney)
	}
}

// lookWithin asks whether what lies within costs no more.
func lookWithin(l []api.Span) {
	for _, outer := range l {
		for _, s := range l {
			must(!isWithin(s, outer) || isNoDearer(s, outer), api.ErrTariff)
		}
	}
}

func isWithin(s, outer api.Span) bool { return s.From >= outer.From && s.To <= outer.To }

func isNoDearer(s, other api.Span) bool {
	return s.Single <= other.Single && s.Daily <= other.Daily && s.Weekly <= other.Weekly
}

func lookAtBands(l []api.Band) {
	must(len(l) <= api.MaxBands, api.ErrTariff)
	end := 0
	for _, b := range l {
		must(b.From >= end && b.To > b.From && b.To <= dayMinutes, api.ErrTariff)
		end = b.To
	}
}

func lookAtMinutes(t api.Tariff) {
	must(t.Longest >= 1, api.ErrTariff)
	for _, n := range []int{t.Longest, t.Hopper, t.Change, t.Passback, t.Delay} {
		must(n >= 0 && n <= dayMinutes, api.ErrTariff)
	}
}
