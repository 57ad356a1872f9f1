package risk

import (
	"cmp"
	"slices"
)

// isRising tells whether each element is above the one ahead of it.
func isRising[T cmp.Ordered](l []T) bool {
	for i := 1; i < len(l); i++ {
		if l[i] <= l[i-1] {
			return false
		}
	}
	return true
}

// rising is a list's elements in order, each once.
func rising[T cmp.Ordered](l []T) []T {
	out := slices.Clone(l)
	slices.Sort(out)
	return slices.Compact(out)
}

// either are the elements of two rising lists, each once.
func either[T cmp.Ordered](a, b []T) []T {
	return chosen(a, b, func(_, _ bool) bool { return true })
}

// common are those that stand in both.
func common[T cmp.Ordered](a, b []T) []T {
	return chosen(a, b, func(inA, inB bool) bool { return inA && inB })
}

// without are those of a that do not stand in b.
func without[T cmp.Ordered](a, b []T) []T {
	return chosen(a, b, func(_, inB bool) bool { return !inB })
}

// chosen goes through two rising lists at once, and takes the elements that are wanted of the lists that they stand in. What it answers rises, too, and is new memory.
func chosen[T cmp.Ordered](a, b []T, wanted func(inA, inB bool) bool) []T {
	var out []T
	for len(a)+len(b) > 0 {
		order := heads(a, b)
		inA, inB := order <= 0, order >= 0
		var x T
		if inA {
			x, a = a[0], a[1:]
		}
		if inB {
			x, b = b[0], b[1:]
		}
		if wanted(inA, inB) {
			out = append(out, x)
		}
	}
	return out
}

// heads compares what two lists begin with, of which not both are empty; an empty one comes last.
func heads[T cmp.Ordered](a, b []T) int {
	switch {
	case len(a) == 0:
		return 1
	case len(b) == 0:
		return -1
	}
	return cmp.Compare(a[0], b[0])
}
