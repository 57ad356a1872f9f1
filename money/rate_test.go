package money_test

import (
	"math"
	"math/big"
	"math/rand"
	"slices"
	"testing"

	"farebox/api"
	"farebox/money"
)

var minusZero = math.Copysign(0, -1)

// notRates are floats that are none.
func notRates() []float64 {
	l := []float64{minusZero, math.NaN(), math.Copysign(math.NaN(), -1), math.Inf(1), math.Inf(-1), math.Nextafter(1, 2), 1.5, 2, math.MaxFloat64, -math.MaxFloat64, -1, -0.5, -math.SmallestNonzeroFloat64, math.Nextafter(-1, 0)}
	for _, b := range []uint64{0x7ff0000000000001, 0xfff0000000000001, 0x7fffffffffffffff, 0xffffffffffffffff, 0x7ff8000000000000, 0xfff8000000000000} {
		l = append(l, math.Float64frombits(b))
	}
	return l
}

// someRates are rates at which a rule changes, and such with few and many bits.
func someRates() []float64 {
	l := []float64{0, 1, math.Nextafter(1, 0), 0.5, math.Nextafter(0.5, 0), math.Nextafter(0.5, 1), 0.1, 0.2, 0.25, 0.3, 1.0 / 3, 2.0 / 3, 0.75, 0.99, math.SmallestNonzeroFloat64, 2 * math.SmallestNonzeroFloat64}
	for _, b := range []uint64{1<<52 - 1, 1 << 52, 1<<52 + 1, 2<<52 - 1, 2 << 52} { // where the floats begin that have a hidden bit
		l = append(l, math.Float64frombits(b))
	}
	for power := range 130 {
		f := math.Ldexp(1, -power)
		l = append(l, f, math.Nextafter(f, 0), math.Nextafter(f/2, 1))
	}
	return l
}

// slowScale is P5.2 of what may be, told as it stands there, in numbers that have no end.
func slowScale(n int, f float64) int {
	product := new(big.Rat).SetFloat64(f)
	product.Mul(product, new(big.Rat).SetInt64(int64(n)))
	product.Add(product, big.NewRat(1, 2))
	return int(new(big.Int).Div(product.Num(), product.Denom()).Int64())
}

func wantScale(t *testing.T, n int, f float64) {
	t.Helper()
	got, e := money.Scale(n, f)
	if want := slowScale(n, f); got != want || e != api.OK {
		t.Errorf("Scale(%d, %b): %d, %d, not %d", n, f, got, e, want)
	}
}

func wantNoScale(t *testing.T, n int, f float64, want api.Errno) {
	t.Helper()
	if got, e := money.Scale(n, f); got != 0 || e != want {
		t.Errorf("Scale(%d, %g): %d, %d, not %d", n, f, got, e, want)
	}
}

// anyRate is a rate of any size.
func anyRate(rnd *rand.Rand) float64 {
	switch rnd.Intn(4) {
	case 0:
		return rnd.Float64()
	case 1:
		return float64(rnd.Intn(101)) / 100
	case 2:
		return math.Ldexp(rnd.Float64(), -rnd.Intn(120))
	}
	return math.Float64frombits(rnd.Uint64() % (math.Float64bits(1) + 1))
}

// anyOwed is an amount of any size, not below 0.
func anyOwed(rnd *rand.Rand) int { return rnd.Intn(most+1) >> rnd.Intn(54) }

// P5.2: rates, and what are none.
func TestRate(t *testing.T) {
	for _, f := range someRates() {
		if !money.Rate(f) {
			t.Errorf("Rate(%g): false", f)
		}
	}
	for _, f := range notRates() {
		if money.Rate(f) {
			t.Errorf("Rate(%g): true, %x", f, math.Float64bits(f))
		}
	}
}

// P5.2: any float is a rate just if it is one by the chapter's words.
func TestRateOfAnyBits(t *testing.T) {
	rnd := rand.New(rand.NewSource(520))
	for range 20000 {
		f := math.Float64frombits(rnd.Uint64())
		if want := f >= 0 && f <= 1 && !math.Signbit(f); money.Rate(f) != want {
			t.Errorf("Rate(%g): not %t", f, want)
		}
	}
}

// P5.2: the chapter's examples.
func TestScaleOfTheChapter(t *testing.T) {
	for _, x := range []struct {
		n    int
		f    float64
		want int
	}{{250, 0.5, 125}, {251, 0.5, 126}, {3, 0.1, 0}, {5, 0.1, 1}} {
		if got, e := money.Scale(x.n, x.f); got != x.want || e != api.OK {
			t.Errorf("Scale(%d, %g): %d, %d, not %d", x.n, x.f, got, e, x.want)
		}
	}
	wantNoScale(t, 1, minusZero, api.ErrRate)
	wantNoScale(t, 1, math.NaN(), api.ErrRate)
	wantNoScale(t, 1, 1.5, api.ErrRate)
	wantNoScale(t, -1, 0.5, api.ErrMoney)
}

// P5.2: small and great amounts by rates with few and many bits.
func TestScale(t *testing.T) {
	amounts := []int{0, 1, 2, 3, 4, 5, 10, 99, 100, 101, 999, 1000, 1 << 26, 1<<52 - 1, 1 << 52, 1<<52 + 1, most - 2, most - 1, most}
	for _, n := range amounts {
		for _, f := range someRates() {
			wantScale(t, n, f)
		}
	}
	rnd := rand.New(rand.NewSource(521))
	for range 50000 {
		wantScale(t, anyOwed(rnd), anyRate(rnd))
	}
}

// P5.2: products that are a half, and those beside a half, as near as floats come.
func TestScaleAtHalves(t *testing.T) {
	rnd := rand.New(rand.NewSource(522))
	for power := 1; power <= 53; power++ {
		f := math.Ldexp(1, -power)
		for range 50 {
			n := 1<<(power-1)*(2*rnd.Intn(1<<(53-power))+1) - 1 + rnd.Intn(3)
			for _, f := range []float64{f, math.Nextafter(f, 0), math.Nextafter(f, 1)} {
				wantScale(t, n, f)
			}
		}
	}
	for range 5000 { // an odd fraction over a power of 2, times half that power
		power := 1 + rnd.Intn(52)
		f := math.Ldexp(float64(2*rnd.Intn(1<<(power-1))+1), -power)
		n := 1 << (power - 1) * (2*rnd.Intn(1<<(53-power)) + 1)
		wantScale(t, n, f)
		wantScale(t, n, math.Nextafter(f, 0))
		wantScale(t, n, math.Nextafter(f, 1))
		wantScale(t, n-1, f)
	}
	for n, want := range map[int]int{most: 1, most - 1: 0} {
		if got, e := money.Scale(n, math.Ldexp(1, -54)); got != want || e != api.OK {
			t.Errorf("Scale(%d, 2^-54): %d, %d", n, got, e)
		}
	}
}

// P5.2: the amount is asked first (W4).
func TestScaleRefused(t *testing.T) {
	for _, f := range notRates() {
		for _, n := range []int{0, 1, 100, most} {
			wantNoScale(t, n, f, api.ErrRate)
		}
	}
	for _, n := range []int{-1, -100, -most, -most - 1, most + 1, math.MaxInt, math.MinInt} {
		for _, f := range append(notRates(), 0, 0.5, 1) {
			wantNoScale(t, n, f, api.ErrMoney)
		}
	}
}

// P5.7: by 1 it is n, by 0 it is 0, always from 0 to n; of a greater amount and by a greater rate no less; of two together at most 1 off.
func TestScaleFollows(t *testing.T) {
	rnd := rand.New(rand.NewSource(523))
	scaled := func(n int, f float64) int {
		got, e := money.Scale(n, f)
		if e != api.OK || got < 0 || got > n {
			t.Errorf("Scale(%d, %b): %d, %d", n, f, got, e)
		}
		return got
	}
	for range 5000 {
		n, m, f, g := anyOwed(rnd)/2, anyOwed(rnd)/2, anyRate(rnd), anyRate(rnd)
		if scaled(n, 1) != n || scaled(n, 0) != 0 {
			t.Errorf("Scale(%d, 1 and 0)", n)
		}
		if scaled(min(n, m), f) > scaled(max(n, m), f) || scaled(n, min(f, g)) > scaled(n, max(f, g)) {
			t.Errorf("Scale falls: %d %d, %b %b", n, m, f, g)
		}
		if off := scaled(n+m, f) - scaled(n, f) - scaled(m, f); off < -1 || off > 1 {
			t.Errorf("Scale of %d and %d by %b: %d off", n, m, f, off)
		}
	}
}

// inOrder are floats as P5.3 says that they stand; those of one row are alike.
func inOrder() [][]float64 {
	l := [][]float64{{math.Inf(-1)}, {-math.MaxFloat64}, {-1e300}, {math.Nextafter(-1, -2)}, {-1}, {math.Nextafter(-1, 0)}, {-0.5}, {-0x1p-1022}, {math.Nextafter(-0x1p-1022, 0)}, {-math.SmallestNonzeroFloat64}, {minusZero}}
	for i := len(l) - 1; i >= 0; i-- {
		l = append(l, []float64{-l[i][0]})
	}
	noNumbers := []float64{math.NaN(), math.Copysign(math.NaN(), -1)}
	for _, b := range []uint64{0x7ff0000000000001, 0xfff0000000000001, 0x7fffffffffffffff, 0xffffffffffffffff} {
		noNumbers = append(noNumbers, math.Float64frombits(b))
	}
	return append(l, noNumbers)
}

func wantOrder(t *testing.T, a, b float64, want int) {
	t.Helper()
	if got := money.Order(a, b); got != want {
		t.Errorf("Order(%g, %g): %d, not %d; %x, %x", a, b, got, want, math.Float64bits(a), math.Float64bits(b))
	}
}

// slowOrder is P5.3, told as it stands there.
func slowOrder(a, b float64) int {
	aNone, bNone := a != a, b != b
	switch {
	case aNone && bNone:
		return 0
	case bNone || !aNone && a < b:
		return -1
	case aNone || a > b:
		return 1
	case math.Signbit(a) == math.Signbit(b):
		return 0
	case math.Signbit(a):
		return -1
	}
	return 1
}

// P5.3: the chapter's examples.
func TestOrderOfTheChapter(t *testing.T) {
	wantOrder(t, minusZero, 0, -1)
	wantOrder(t, math.NaN(), math.Inf(1), 1)
	wantOrder(t, math.NaN(), math.NaN(), 0)
	wantOrder(t, -1, math.Inf(-1), 1)
}

// P5.3: every two of the floats at which the order turns.
func TestOrder(t *testing.T) {
	for i, row := range inOrder() {
		for k, other := range inOrder() {
			want := min(1, max(-1, i-k))
			for _, a := range row {
				for _, b := range other {
					wantOrder(t, a, b, want)
				}
			}
		}
	}
}

// P5.3: any two floats, and those that stand side by side.
func TestOrderOfAnyBits(t *testing.T) {
	rnd := rand.New(rand.NewSource(53))
	for range 20000 {
		b := rnd.Uint64()
		f, g, near := math.Float64frombits(b), math.Float64frombits(rnd.Uint64()), math.Float64frombits(b+1)
		for _, o := range []float64{f, g, near, -f, 1 / g} {
			wantOrder(t, f, o, slowOrder(f, o))
			wantOrder(t, o, f, slowOrder(o, f))
		}
	}
}

// P5.8: it is an order of all float64 (one way round, and passed on), and a float is a rate just if it stands from 0 to 1.
func TestOrderFollows(t *testing.T) {
	all := append(someRates(), notRates()...)
	for _, row := range inOrder() {
		all = append(all, row...)
	}
	for _, f := range all {
		if is := money.Order(0, f) <= 0 && money.Order(f, 1) <= 0; is != money.Rate(f) {
			t.Errorf("Order and Rate of %g", f)
		}
	}
	rnd := rand.New(rand.NewSource(58))
	for range 50000 {
		a, b, c := all[rnd.Intn(len(all))], all[rnd.Intn(len(all))], all[rnd.Intn(len(all))]
		if money.Order(a, b) != -money.Order(b, a) || money.Order(a, a) != 0 {
			t.Errorf("Order(%g, %g) is not one way round", a, b)
		}
		if money.Order(a, b) <= 0 && money.Order(b, c) <= 0 && money.Order(a, c) > 0 {
			t.Errorf("Order(%g, %g, %g) is not passed on", a, b, c)
		}
	}
	slices.SortFunc(all, money.Order)
	for i := range all[1:] {
		if slowOrder(all[i], all[i+1]) > 0 {
			t.Errorf("sorted: %g ahead of %g", all[i], all[i+1])
		}
	}
}

func FuzzScaled(f *testing.F) {
	f.Add(250, 0.5)
	f.Add(most, math.Nextafter(1, 0))
	f.Add(most-1, math.Ldexp(1, -54))
	f.Add(-1, math.NaN())
	f.Add(1, minusZero)
	f.Fuzz(func(t *testing.T, n int, rate float64) {
		switch {
		case n < 0 || n > most:
			wantNoScale(t, n, rate, api.ErrMoney)
		case !(rate >= 0 && rate <= 1) || math.Signbit(rate):
			wantNoScale(t, n, rate, api.ErrRate)
		default:
			wantScale(t, n, rate)
		}
	})
}
