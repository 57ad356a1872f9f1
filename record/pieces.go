package record

import "farebox/api"

// maxSpans is how many there are of all zones.
const maxSpans = api.MaxZones * (api.MaxZones + 1) / 2

func (w walk) tap(t *api.Tap) {
	w.numbers(2, &t.Device)
	w.numbers(4, &t.Counter)
	w.token(&t.Token)
	w.numbers(1, &t.Kind)
	w.numbers(2, &t.Place)
	w.numbers(4, &t.Time)
}

func (w walk) delta(d *api.Delta) {
	w.numbers(8, &d.Version)
	list(w, &d.Add, api.MaxListed, walk.token)
	list(w, &d.Gone, api.MaxListed, walk.token)
}

func (w walk) entry(e *api.Entry) {
	w.numbers(4, &e.Run)
	w.token(&e.Token)
	w.amount(&e.Amount)
	w.truth(&e.Paid)
}

func (w walk) account(a *api.Account) {
	w.token(&a.Token)
	w.numbers(8, &a.Charged, &a.Paid)
}

func (w walk) outages(l *[]api.Outage) { list(w, l, api.MaxOutages, walk.outage) }

func (w walk) outage(o *api.Outage) {
	w.numbers(2, &o.Station)
	w.numbers(4, &o.From, &o.To)
}

func (w walk) tariff(t *api.Tariff) {
	list(w, &t.Stations, api.MaxStations, walk.station)
	list(w, &t.Spans, maxSpans, walk.span)
	list(w, &t.Peak, api.MaxBands, walk.band)
	w.rate(&t.Off)
	w.numbers(4, &t.Bus, &t.BusDaily, &t.BusWeekly)
	w.numbers(2, &t.Hopper)
	w.numbers(4, &t.Most)
	w.numbers(2, &t.Longest, &t.Change, &t.Passback, &t.Delay)
	w.numbers(4, &t.Threshold)
}

func (w walk) station(s *api.Station) {
	w.numbers(2, &s.Id)
	w.numbers(1, &s.Zone)
	w.numbers(2, &s.Group)
}

func (w walk) span(s *api.Span) {
	w.numbers(1, &s.From, &s.To)
	w.numbers(4, &s.Single, &s.Daily, &s.Weekly)
}

func (w walk) band(b *api.Band) { w.numbers(2, &b.From, &b.To) }
