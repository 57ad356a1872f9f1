package wal

import (
	"bytes"

	"farebox/api"
	"farebox/block"
	"farebox/sum"
	"farebox/wire"
)

const (
	heads     = 2 // sectors
	headMark  = "FBWL"
	epochSize = 8 // bytes of an epoch in a head, and in a stamp
	halfSize  = 1
)

// head says which half has the records, and by which stamp they are known. Without an epoch it says nothing.
type head struct{ epoch, half int }

// holding is the head that holds, and its sector. Where none does it is as if the sector 1 had one without an epoch: the first one to be written is then the sector 0's, of the half 0.
func holding(d *block.Disk) (head, int, error) {
	held, at := head{half: 1}, 1
	for i := range heads {
		b, err := d.Read(i)
		if err != nil {
			return head{}, 0, err
		}
		if h, is := readHead(b); is && h.epoch > held.epoch {
			held, at = h, i
		}
	}
	return held, at, nil
}

// readHead is what a sector says; false: it is no head that may be. Whether it is just so is asked by writing what it seems to say.
func readHead(sector []byte) (head, bool) {
	r := wire.NewReader(sector)
	r.Fixed(len(headMark))
	h := head{r.Number(epochSize), r.Number(halfSize)}
	if h.epoch < 1 || h.epoch > api.MaxEpoch || h.half > 1 || !bytes.Equal(sector, h.sector()) {
		return head{}, false
	}
	return h, true
}

func (h head) sector() []byte {
	w := wire.NewWriter()
	w.Fixed(headMark, len(headMark))
	w.Number(h.epoch, epochSize)
	w.Number(h.half, halfSize)
	b, _ := w.Bytes() // an epoch and a half always fit
	return filled(sum.Frame(b))
}

// records are those that the head's half has for it.
func (h head) records(d *block.Disk) ([][]byte, error) {
	if h.epoch == 0 {
		return nil, nil
	}
	parts, err := halfOf(d, h.half).parts(h.epoch)
	if err != nil {
		return nil, err
	}
	return recordsIn(parts), nil
}

// filled is a sector that begins with these bytes.
func filled(b []byte) []byte {
	sector := make([]byte, api.SectorSize)
	copy(sector, b)
	return sector
}
