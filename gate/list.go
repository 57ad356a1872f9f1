package gate

import (
	"farebox/api"
	"farebox/record"
	"farebox/store"
)

// listKey is what a gate's list stands under, as the delta that would make it of nothing; the list ahead of all others has no entry.
const listKey = "l"

// listIn is the list that stands in a store; ErrGate, if that is no gate's.
func listIn(d *store.Draft) (api.RiskList, error) {
	value, is := d.Get(listKey)
	if !is && d.Len() == 0 {
		return api.RiskList{}, nil
	}
	all, f := record.ReadDelta([]byte(value))
	if f.Code != api.OK || len(all.Gone) > 0 || d.Len() > 1 {
		return api.RiskList{}, api.ErrGate
	}
	return api.RiskList{Version: all.Version, Tokens: all.Add}, nil
}

// keepList makes a list what stands in a store, and safe. There is room for any.
func keepList(s *store.Store, l api.RiskList) error {
	b, _ := record.Delta(api.Delta{Version: l.Version, Add: l.Tokens}) // a list that may be is such a delta
	d := s.Begin()
	d.Put(listKey, string(b))
	return s.Commit(d)
}
