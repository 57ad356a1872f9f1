package record

import (
	"slices"

	"farebox/api"
	"farebox/clock"
	"farebox/money"
)

// maxPlace is the greatest number of a station.
const maxPlace = 1<<16 - 1

func tapError(t api.Tap) api.Errno {
	numbered := isFrom(t.Device, 1, api.MaxDevice) && isFrom(t.Counter, 1, api.MaxCounter)
	placed := isFrom(t.Kind, api.TapEntry, api.TapBus) && isFrom(t.Place, 1, greatestPlace(t.Kind))
	return errorUnless(numbered && placed && isToken(t.Token) && clock.Right(t.Time))
}

// greatestPlace is that of a route or of a station, as the kind of tap says.
func greatestPlace(kind int) int {
	if kind == api.TapBus {
		return api.MaxRoutes
	}
	return maxPlace
}

func deltaError(d api.Delta) api.Errno {
	return errorUnless(d.Version >= 1 && areListed(d.Add) && areListed(d.Gone) && areApart(d.Add, d.Gone))
}

// areListed tells whether a list may hold these: not too many tokens, rising.
func areListed(l []string) bool {
	if len(l) > api.MaxListed {
		return false
	}
	for i, s := range l {
		if !isToken(s) || i > 0 && s <= l[i-1] {
			return false
		}
	}
	return true
}

// areApart tells whether two rising lists have no token in common.
func areApart(l, others []string) bool {
	return !slices.ContainsFunc(l, func(s string) bool {
		_, is := slices.BinarySearch(others, s)
		return is
	})
}

func entryError(e api.Entry) api.Errno {
	return errorUnless(isFrom(e.Run, 1, api.MaxRuns) && isToken(e.Token) && money.Right(e.Amount) && e.Amount != 0)
}

func accountError(a api.Account) api.Errno {
	return errorUnless(isToken(a.Token) && isFrom(a.Charged, 0, api.MaxMoney) && isFrom(a.Paid, 0, a.Charged))
}

func outagesError(l []api.Outage) api.Errno {
	return errorUnless(len(l) <= api.MaxOutages && !slices.ContainsFunc(l, isNoOutage))
}

func isNoOutage(o api.Outage) bool {
	timed := clock.Right(o.From) && clock.Right(o.To) && o.From < o.To
	return !timed || !isFrom(o.Station, 1, maxPlace)
}

func isToken(s string) bool { return len(s) == api.TokenSize }

func isFrom(n, low, high int) bool { return n >= low && n <= high }

// errorUnless is what is told of a record of which it is known whether it may be.
func errorUnless(mayBe bool) api.Errno {
	if mayBe {
		return api.OK
	}
	return api.ErrRecord
}
