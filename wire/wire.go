// Package wire is layer 1: what goes over wires and onto disks, piece by piece: see shared/doc/01-wire.md.
package wire

import "farebox/api"

const (
	truthSize = 1            // bytes of a Bool
	countSize = 2            // bytes of a Count, and of a Text's length
	wideSize  = 8            // bytes of an Int, of a Float, and of the widest Number
	mostCount = 1<<16 - 1    // what countSize bytes hold
	oneNaN    = 0x7ff8 << 48 // the bits that stand for every NaN
)

// must gives a piece up, to be caught at the edge of the call that is about it.
func must(is bool, otherwise api.Errno) {
	if !is {
		panic(otherwise)
	}
}
