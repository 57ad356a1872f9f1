package gate

import (
	"iter"

	"farebox/api"
	"farebox/record"
	"farebox/seal"
)

// sealer seals a gate's taps, and knows them again.
type sealer struct {
	device int
	key    string
}

// sealerOf is that of a set-up that may be.
func sealerOf(setup api.Gate) sealer {
	key, _ := seal.Key(setup.Secret, setup.Device)
	return sealer{setup.Device, key}
}

// sealed are the bytes of a tap that may be, under its seal.
func (s sealer) sealed(tap api.Tap) []byte {
	b, _ := record.Tap(tap)
	sealed, _ := seal.Seal(s.key, b) // no key is too long
	return sealed
}

// opened is the tap that an item is; false: it is none of this gate's with that number.
func (s sealer) opened(x api.Item) (api.Tap, bool) {
	b, e := seal.Open(s.key, x.Bytes)
	if e != api.OK {
		return api.Tap{}, false
	}
	tap, f := record.ReadTap(b)
	return tap, f.Code == api.OK && tap.Device == s.device && tap.Counter == x.Seq
}

// taps goes through items: of each what opened tells.
func (s sealer) taps(l []api.Item) iter.Seq2[api.Tap, bool] {
	return func(yield func(api.Tap, bool) bool) {
		for _, x := range l {
			if !yield(s.opened(x)) {
				return
			}
		}
	}
}
