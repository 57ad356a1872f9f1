package journey_test

import (
	"math"
	"math/rand"
	"slices"
	"testing"

	"farebox/api"
	"farebox/journey"
)

// someNumbers are such as taps may have and such as they may not, the least and the greatest among them.
func someNumbers() []int {
	return []int{math.MinInt, math.MinInt + 1, -1 << 32, -1, 0, 1, 2, 65535, 65536, 1<<31 - 1, 1 << 31, 1<<31 + 1, 1<<32 - 1, 1 << 32, math.MaxInt - 1, math.MaxInt}
}

// orderIs holds Order both ways round.
func orderIs(t *testing.T, a, b api.Tap, want int) {
	t.Helper()
	if got := journey.Order(a, b); got != want {
		t.Errorf("Order(%s): %d, not %d", short([]api.Tap{a, b}), got, want)
	}
	if got := journey.Order(b, a); got != -want {
		t.Errorf("Order(%s): %d, not %d", short([]api.Tap{b, a}), got, -want)
	}
}

// P17.1: each of the three numbers alone, whatever it is.
func TestOrderByOneNumber(t *testing.T) {
	numbers := someNumbers()
	for i, x := range numbers {
		for j, y := range numbers {
			want := 0
			if i < j {
				want = -1
			} else if i > j {
				want = 1
			}
			for _, others := range []int{math.MinInt, 0, 5, math.MaxInt} {
				orderIs(t, api.Tap{Time: x, Device: others, Counter: others}, api.Tap{Time: y, Device: others, Counter: others}, want)
				orderIs(t, api.Tap{Time: others, Device: x, Counter: others}, api.Tap{Time: others, Device: y, Counter: others}, want)
				orderIs(t, api.Tap{Time: others, Device: others, Counter: x}, api.Tap{Time: others, Device: others, Counter: y}, want)
			}
		}
	}
}

// P17.1: Time comes first, then Device, then Counter.
func TestOrderOfTheThree(t *testing.T) {
	for _, low := range someNumbers() {
		for _, high := range someNumbers() {
			if low >= high {
				continue
			}
			for _, x := range someNumbers() {
				orderIs(t, api.Tap{Time: low, Device: high, Counter: high}, api.Tap{Time: high, Device: low, Counter: low}, -1)
				orderIs(t, api.Tap{Time: low, Device: high, Counter: x}, api.Tap{Time: high, Device: low, Counter: x}, -1)
				orderIs(t, api.Tap{Time: low, Device: x, Counter: high}, api.Tap{Time: high, Device: x, Counter: low}, -1)
				orderIs(t, api.Tap{Time: x, Device: low, Counter: high}, api.Tap{Time: x, Device: high, Counter: low}, -1)
			}
		}
	}
}

// P17.1: nothing hangs on Token, Kind or Place.
func TestOrderOfTheThreeAlone(t *testing.T) {
	a := api.Tap{Time: 5, Device: 6, Counter: 7, Token: token, Kind: in, Place: 1}
	for _, b := range []api.Tap{
		a,
		{Time: 5, Device: 6, Counter: 7, Token: "zzzzzzzz", Kind: in, Place: 1},
		{Time: 5, Device: 6, Counter: 7, Token: "", Kind: in, Place: 1},
		{Time: 5, Device: 6, Counter: 7, Token: token, Kind: bus, Place: 1},
		{Time: 5, Device: 6, Counter: 7, Token: token, Kind: math.MinInt, Place: 1},
		{Time: 5, Device: 6, Counter: 7, Token: token, Kind: in, Place: 2},
		{Time: 5, Device: 6, Counter: 7, Token: token, Kind: in, Place: math.MaxInt},
		{Time: 5, Device: 6, Counter: 7},
	} {
		orderIs(t, a, b, 0)
		b.Counter = 8
		orderIs(t, a, b, -1)
		b.Counter = 6
		orderIs(t, a, b, 1)
	}
}

// P17.1: any taps, as the chapter tells it; by Order a list can be sorted.
func TestOrderOfMany(t *testing.T) {
	rnd := rand.New(rand.NewSource(171))
	numbers := someNumbers()
	any := func() int { return numbers[rnd.Intn(len(numbers))] }
	var l []api.Tap
	for range 300 {
		l = append(l, api.Tap{Time: any(), Device: any(), Counter: any(), Kind: any(), Place: any(), Token: token[:rnd.Intn(9)]})
	}
	for _, a := range l {
		for _, b := range l {
			orderIs(t, a, b, slowOrder(a, b))
		}
	}
	slices.SortFunc(l, journey.Order)
	if !slices.IsSortedFunc(l, slowOrder) {
		t.Error("not sorted")
	}
}
