package ingest

import (
	"math"

	"farebox/api"
	"farebox/record"
	"farebox/seal"
	"farebox/store"
)

// sealer looks at the seals of all devices.
type sealer struct{ secret string }

// isRight tells whether an item has the seal of a device that there may be.
func (s sealer) isRight(device int, item []byte) bool {
	key, _ := seal.Key(s.secret, device)
	_, e := seal.Open(key, item)
	return e == api.OK
}

// judge lays a tap into a draft, if it is not there yet, and puts aside what is none. How an item's seal is looked at is handed in.
func judge(d *store.Draft, item []byte, isRight func(device int, item []byte) bool) api.Errno {
	tap, is := tapOf(item, isRight)
	if !is {
		return putAside(d, item)
	}
	key, _ := record.Key(tap)
	if _, known := d.Get(key); known {
		return api.OK
	}
	if !isNew(d, tap) || !hasRoom(d, tap.Token) {
		return putAside(d, item)
	}
	value, _ := record.Tap(tap)
	d.Put(key, string(value))
	d.Put(counterKey(tap), "")
	return api.OK
}

// tapOf is the tap that an item is; false: it is none, or its device did not seal it.
func tapOf(item []byte, isRight func(device int, item []byte) bool) (api.Tap, bool) {
	size := len(item) - api.SealSize
	if size < 0 {
		return api.Tap{}, false
	}
	tap, f := record.ReadTap(item[:size])
	return tap, f.Code == api.OK && isRight(tap.Device, item)
}

// isNew tells whether no other tap had the counter of its device.
func isNew(d *store.Draft, tap api.Tap) bool {
	_, is := d.Get(counterKey(tap))
	return !is
}

// hasRoom tells whether a token may have one tap more.
func hasRoom(d *store.Draft, token string) bool {
	many := 0
	for range under(d, keyOf(tapLetter, token)) {
		many++
	}
	if many == 0 {
		return tokensIn(d) < api.MaxTokens
	}
	return many < api.MaxTaps
}

// putAside lays an item behind all that were put aside. ErrFull, if there is no number for it any more.
func putAside(d *store.Draft, item []byte) api.Errno {
	last := uint64(0)
	for number := range badIn(d) {
		last = number
	}
	if last == math.MaxUint64 {
		return api.ErrFull
	}
	d.Put(badKey(last+1), string(item))
	return api.OK
}
