package wal

import (
	"slices"

	"farebox/api"
	"farebox/block"
	"farebox/wire"
)

// half is one of the two places for a stream.
type half struct {
	disk           *block.Disk
	first, sectors int
}

func halfOf(d *block.Disk, which int) half {
	sectors := halfSectors(d.Sectors())
	return half{d, heads + which*sectors, sectors}
}

// halfSectors is how many each half has on a disk of so many.
func halfSectors(sectors int) int { return (sectors - heads) / 2 }

// streamSize is how many bytes the stream of a half has room for.
func streamSize(sectors int) int { return api.LogPart * halfSectors(sectors) }

// parts are what stands in the stream, up to the first sector that has another stamp.
func (h half) parts(stamp int) ([]byte, error) {
	var parts []byte
	for i := range h.sectors {
		sector, err := h.disk.Read(h.first + i)
		if err != nil {
			return nil, err
		}
		if stampOf(sector) != stamp {
			break
		}
		parts = append(parts, sector[epochSize:]...)
	}
	return parts, nil
}

// unusedEpoch is the least one above another that is no stamp here: of a sector that has it all is known to be written under it.
func (h half) unusedEpoch(above int) (int, error) {
	var stamps []int
	for i := range h.sectors {
		sector, err := h.disk.Read(h.first + i)
		if err != nil {
			return 0, err
		}
		stamps = append(stamps, stampOf(sector))
	}
	slices.Sort(stamps)
	epoch := above + 1
	for _, stamp := range stamps {
		if stamp == epoch {
			epoch++
		}
	}
	return epoch, nil
}

// stampOf is 0, which is no epoch, where the bytes are no number.
func stampOf(sector []byte) int { return wire.NewReader(sector[:epochSize]).Number(epochSize) }

// stamped is a sector with its stamp and its part of the stream.
func stamped(stamp int, part []byte) []byte {
	w := wire.NewWriter()
	w.Number(stamp, epochSize)
	b, _ := w.Bytes() // an epoch always fits
	return filled(slices.Concat(b, part))
}
