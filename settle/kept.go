package settle

import (
	"iter"

	"farebox/api"
	"farebox/record"
	"farebox/store"
	"farebox/wire"
)

// What keys begin with; of the last two there is one entry at most, whose key that is. (A tap's key is made by record.Key.)
const (
	tapLetter     = "t"
	accountLetter = "a"
	entryLetter   = "e"
	deltaLetter   = "d"
	listLetter    = "r"
	lastLetter    = "n"
)

// Bytes of numbers in keys and values.
const (
	runSize     = 4
	placeSize   = 4
	versionSize = 8
)

func tapsUnder(d *store.Draft, beginning string) iter.Seq[api.Tap] {
	return under(d, beginning, record.ReadTap, tapKey)
}

func accountsIn(d *store.Draft) iter.Seq[api.Account] {
	return under(d, accountLetter, record.ReadAccount, accountKey)
}

// entriesOf goes through those of a run: each one's place is how many were ahead of it.
func entriesOf(d *store.Draft, run int) iter.Seq[api.Entry] {
	place := -1
	return under(d, runKeys(run), record.ReadEntry, func(x api.Entry) string {
		place++
		return entryKey(x.Run, place)
	})
}

func deltasOf(d *store.Draft, version int) iter.Seq[api.Delta] {
	return under(d, deltaKey(version), record.ReadDelta, func(x api.Delta) string { return deltaKey(x.Version) })
}

func listIn(d *store.Draft) iter.Seq[api.RiskList] {
	return under(d, listLetter, readList, func(api.RiskList) string { return listLetter })
}

func lastIn(d *store.Draft) iter.Seq[int] {
	return under(d, lastLetter, readRun, func(int) string { return lastLetter })
}

// under goes through what stands under the keys that begin so. It gives the call up at the first value that is none of its kind, or stands under another key than its own.
func under[T any](d *store.Draft, beginning string, read func([]byte) (T, api.Fault), keyOf func(T) string) iter.Seq[T] {
	return func(yield func(T) bool) {
		for key, value := range d.All(beginning, behind(beginning)) {
			x, f := read([]byte(value))
			giveUpIf(f.Code != api.OK || keyOf(x) != key, api.ErrSettle)
			if !yield(x) {
				return
			}
		}
	}
}

// behind is the first text behind all that begin so. Keys begin with a letter, so one of the bytes may be raised.
func behind(beginning string) string {
	last := len(beginning) - 1
	for beginning[last] == 255 {
		last--
	}
	return beginning[:last] + string([]byte{beginning[last] + 1})
}

// only is the one that there is, or a zero one: of one whole key no two values stand there.
func only[T any](l iter.Seq[T]) T {
	var one T
	for x := range l {
		one = x
	}
	return one
}

func tapKey(x api.Tap) string {
	key, _ := record.Key(x)
	return key
}

func accountKey(a api.Account) string { return accountLetter + a.Token }

func runKeys(run int) string { return entryLetter + number(run, runSize) }

func entryKey(run, place int) string { return runKeys(run) + number(place, placeSize) }

func deltaKey(version int) string { return deltaLetter + number(version, versionSize) }

// number is one that fits, in so many bytes.
func number(n, size int) string {
	w := wire.NewWriter()
	w.Number(n, size)
	b, _ := w.Bytes()
	return string(b)
}

// readList reads a list, which stands as a delta that makes it of nothing.
func readList(b []byte) (api.RiskList, api.Fault) {
	d, f := record.ReadDelta(b)
	if len(d.Gone) > 0 {
		f.Code = api.ErrRecord
	}
	return api.RiskList{Version: d.Version, Tokens: d.Add}, f
}

// readRun reads one that there was: of none nothing stands there.
func readRun(b []byte) (int, api.Fault) {
	r := wire.NewReader(b)
	run := r.Number(runSize)
	if !isRun(run) {
		r.Fail(api.ErrRecord)
	}
	return run, r.End()
}

func isRun(n int) bool { return n >= 1 && n <= api.MaxRuns }
