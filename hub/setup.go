package hub

import (
	"slices"

	"farebox/api"
	"farebox/link"
)

func mayBe(setup api.Hub) bool {
	if !within(len(setup.Gates), 1, api.MaxGates) {
		return false
	}
	nodes := slices.Concat([]int{setup.Number}, setup.Gates)
	return every(nodes, isNumber) && unlike(nodes) &&
		len(setup.Secret) <= api.MaxSecret &&
		within(setup.Limit, 1, api.MaxItems)
}

func isNumber(n int) bool { return within(n, 1, api.MaxDevice) }

func within(n, least, most int) bool { return n >= least && n <= most }

// every tells whether each one of a list is so.
func every[T any](l []T, so func(T) bool) bool {
	return !slices.ContainsFunc(l, func(x T) bool { return !so(x) })
}

// unlike tells whether no two of a list are the same. It looks back for each, as lists of a set-up are short.
func unlike[T comparable](l []T) bool {
	for i, x := range l {
		if slices.Contains(l[:i], x) {
			return false
		}
	}
	return true
}

// side is a hub's end of the link to one of its gates.
type side struct {
	secret   string
	receiver *link.Receiver
}

// sidesOf are those of a set-up that may be, by the gates' numbers.
func sidesOf(setup api.Hub) map[int]side {
	sides := map[int]side{}
	for _, gate := range setup.Gates {
		secret, _ := link.Secret(setup.Secret, gate)
		sides[gate] = side{secret, link.NewReceiver()}
	}
	return sides
}

// answers are the bytes of a frame that may be, the only one that answers.
func (s side) answers(f api.Frame) [][]byte {
	b, _ := link.Make(s.secret, f)
	return [][]byte{b}
}
