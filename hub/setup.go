package hub

import (
	"slices"

	"farebox/api"
	"farebox/downlink"
)

func mayBe(setup api.Hub) bool {
	return len(setup.Secret) <= api.MaxSecret &&
		within(setup.Limit, 1, api.MaxItems) &&
		within(len(setup.Gates), 1, api.MaxGates) &&
		downlink.AreNumbers(slices.Concat([]int{setup.Number}, setup.Gates))
}

func within(n, least, most int) bool { return n >= least && n <= most }
