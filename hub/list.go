package hub

import (
	"farebox/api"
	"farebox/record"
	"farebox/risk"
	"farebox/store"
)

// listKey is what a hub's list stands under, as the delta that would make it of nothing; the list ahead of all others has no entry.
const listKey = "l"

// deltaKey is what the delta that made a version stands under.
func deltaKey(version int) string {
	b := []byte{'d'}
	for shift := 56; shift >= 0; shift -= 8 {
		b = append(b, byte(version>>shift))
	}
	return string(b)
}

// listIn is the list that stands in a store; ErrHub, if that is no hub's. All entries but the list itself must be deltas, and the list what they make, one behind another: a gate that follows them has just that. A single entry is never right: a list has deltas, and a delta a list.
func listIn(d *store.Draft) (api.RiskList, error) {
	var l api.RiskList
	for range d.Len() - 1 {
		next, e := risk.Apply(l, deltaIn(d, l.Version+1))
		if e != api.OK {
			return api.RiskList{}, api.ErrHub
		}
		l = next
	}
	value, _ := d.Get(listKey)
	if value != asValue(whole(l)) || d.Len() == 1 {
		return api.RiskList{}, api.ErrHub
	}
	return l, nil
}

// deltaIn is the delta that stands in a store for a version; one that may not be, if there is none.
func deltaIn(d *store.Draft, version int) api.Delta {
	value, _ := d.Get(deltaKey(version))
	delta, _ := record.ReadDelta([]byte(value))
	return delta
}

// whole is a list as one delta.
func whole(l api.RiskList) api.Delta { return api.Delta{Version: l.Version, Add: l.Tokens} }

// asValue is a delta as it stands in a store; nothing, if it may not be.
func asValue(d api.Delta) string {
	b, _ := record.Delta(d)
	return string(b)
}

// keep makes a list what stands in a store, with the delta that made it, and safe.
func keep(s *store.Store, l api.RiskList, made api.Delta) error {
	d := s.Begin()
	d.Put(listKey, asValue(whole(l)))
	d.Put(deltaKey(l.Version), asValue(made))
	return s.Commit(d)
}
