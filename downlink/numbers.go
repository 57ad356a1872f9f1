package downlink

import (
	"slices"

	"farebox/api"
)

// AreNumbers tells whether nodes may have these numbers: each has one of its own.
func AreNumbers(l []int) bool { return every(l, isNumber) && unlike(l) }

func isNumber(n int) bool { return n >= 1 && n <= api.MaxDevice }

// every tells whether each one of a list is so.
func every[T any](l []T, so func(T) bool) bool {
	return !slices.ContainsFunc(l, func(x T) bool { return !so(x) })
}

// unlike tells whether no two of a list are the same. It looks back for each, as lists of a set-up are short.
func unlike[T comparable](l []T) bool {
	for i, x := range l {
		if slices.Contains(l[:i], x) {
			return false
		}
	}
	return true
}
