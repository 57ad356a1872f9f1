package link

import (
	"slices"

	"farebox/api"
	"farebox/wire"
)

// The kinds of frames follow one another, from api's first one on.
const (
	kindItems = api.FrameItems + iota
	kindAck
	kindHave
	kindDelta
)

const (
	kindSize = 1 // bytes
	seqSize  = 8 // bytes
)

// mayBe tells whether a frame says what its kind may say, and nothing beside it.
func mayBe(f api.Frame) bool {
	switch f.Kind {
	case kindItems:
		return len(f.Bytes) == 0 && itemsMayBe(f)
	case kindAck:
		return isBare(f) && within(f.Seq, 0, api.MaxCounter)
	case kindHave:
		return isBare(f) && within(f.Seq, 0, api.MaxRuns)
	case kindDelta:
		return f.Base == 0 && f.Seq == 0 && len(f.Items) == 0 && len(f.Bytes) <= api.MaxDelta
	}
	return false
}

// itemsMayBe looks at how many there are first, so that no number goes round when the last one is reckoned.
func itemsMayBe(f api.Frame) bool {
	many := len(f.Items)
	return within(many, 1, api.MaxBatch) &&
		within(f.Base, 1, f.Seq) &&
		f.Seq <= api.MaxCounter-many+1 &&
		!slices.ContainsFunc(f.Items, isLong)
}

// isBare tells whether a frame says nothing but its number.
func isBare(f api.Frame) bool {
	return f.Base == 0 && len(f.Items) == 0 && len(f.Bytes) == 0
}

func isLong(item []byte) bool { return len(item) > api.MaxItem }

func within(n, least, most int) bool { return n >= least && n <= most }

// bytesOf are those of a frame that may be: nothing in it is too great for its piece.
func bytesOf(f api.Frame) []byte {
	w := wire.NewWriter()
	w.Number(f.Kind, kindSize)
	switch f.Kind {
	case kindItems:
		w.Number(f.Base, seqSize)
		w.Number(f.Seq, seqSize)
		w.Count(len(f.Items))
		for _, item := range f.Items {
			w.Text(string(item))
		}
	case kindAck, kindHave:
		w.Number(f.Seq, seqSize)
	case kindDelta:
		w.Text(string(f.Bytes))
	}
	b, _ := w.Bytes()
	return b
}

// readFrame is the frame whose bytes these are; false: they are those of none that may be.
func readFrame(b []byte) (api.Frame, bool) {
	r := wire.NewReader(b)
	f := api.Frame{Kind: r.Number(kindSize)}
	switch f.Kind {
	case kindItems:
		f.Base = r.Number(seqSize)
		f.Seq = r.Number(seqSize)
		for range r.Count(api.MaxBatch) {
			f.Items = append(f.Items, []byte(r.Text(api.MaxItem)))
		}
	case kindAck, kindHave:
		f.Seq = r.Number(seqSize)
	case kindDelta:
		f.Bytes = []byte(r.Text(api.MaxDelta))
	}
	return f, r.End().Code == api.OK && mayBe(f)
}
