package money_test

import (
	"math"
	"math/big"
	"math/rand"
	"slices"
	"testing"

	"farebox/api"
	"farebox/money"
)

const most = 1 << 53

// edges are numbers at which a rule changes, and some beside them.
func edges() []int {
	l := []int{math.MinInt, math.MinInt + 1, math.MaxInt - 1, math.MaxInt}
	for _, n := range []int{-1 << 62, -1 << 54, -most, -most / 2, -100, 0, 100, most / 2, most, 1 << 54, 1 << 62} {
		l = append(l, n-1, n, n+1)
	}
	return l
}

// slowRight is the chapter's word for an amount.
func slowRight(n *big.Int) bool { return n.CmpAbs(big.NewInt(most)) <= 0 }

// slowSum is P5.1, told as it stands there, in numbers that have no end.
func slowSum(l ...int) (int, api.Errno) {
	sum := big.NewInt(0)
	for _, n := range l {
		if !slowRight(big.NewInt(int64(n))) {
			return 0, api.ErrMoney
		}
	}
	for _, n := range l {
		sum.Add(sum, big.NewInt(int64(n)))
		if !slowRight(sum) {
			return 0, api.ErrMoney
		}
	}
	return int(sum.Int64()), api.OK
}

// slowSub is P5.1, likewise.
func slowSub(a, b int) (int, api.Errno) {
	x, y := big.NewInt(int64(a)), big.NewInt(int64(b))
	d := new(big.Int).Sub(x, y)
	if !slowRight(x) || !slowRight(y) || !slowRight(d) {
		return 0, api.ErrMoney
	}
	return int(d.Int64()), api.OK
}

func wantNumber(t *testing.T, what string, got int, e api.Errno, want int, wantE api.Errno) {
	t.Helper()
	if got != want || e != wantE {
		t.Errorf("%s: %d, %d, not %d, %d", what, got, e, want, wantE)
	}
}

func wantPair(t *testing.T, a, b int) {
	t.Helper()
	got, e := money.Add(a, b)
	if want, wantE := slowSum(a, b); got != want || e != wantE {
		t.Errorf("Add(%d, %d): %d, %d, not %d, %d", a, b, got, e, want, wantE)
	}
	got, e = money.Sub(a, b)
	if want, wantE := slowSub(a, b); got != want || e != wantE {
		t.Errorf("Sub(%d, %d): %d, %d, not %d, %d", a, b, got, e, want, wantE)
	}
}

func wantSum(t *testing.T, l []int) {
	t.Helper()
	got, e := money.Sum(l)
	if want, wantE := slowSum(l...); got != want || e != wantE {
		t.Errorf("Sum(%d): %d, %d, not %d, %d", l, got, e, want, wantE)
	}
}

// P5.1: amounts, and what lies beside them.
func TestRight(t *testing.T) {
	for n, want := range map[int]bool{
		-most: true, most: true, 0: true, 1: true, -1: true, 12345: true,
		-most - 1: false, most + 1: false, math.MinInt: false, math.MaxInt: false, math.MinInt + 1: false, 1 << 54: false, -1 << 62: false,
	} {
		if money.Right(n) != want {
			t.Errorf("Right(%d): not %t", n, want)
		}
	}
	if api.MaxMoney != most {
		t.Error("MaxMoney:", api.MaxMoney)
	}
}

// P5.1: the chapter's examples.
func TestSumsOfTheChapter(t *testing.T) {
	n, e := money.Add(1<<53, 1)
	wantNumber(t, "Add", n, e, 0, api.ErrMoney)
	n, e = money.Sub(0, 1<<53)
	wantNumber(t, "Sub", n, e, -1<<53, api.OK)
	n, e = money.Sum([]int{1, 1 << 53, -1})
	wantNumber(t, "Sum", n, e, 0, api.ErrMoney)
}

// P5.1: every two of the edges; no number goes round (W7).
func TestAddAndSubAtTheEdges(t *testing.T) {
	for _, a := range edges() {
		for _, b := range edges() {
			wantPair(t, a, b)
			wantSum(t, []int{a, b})
		}
	}
}

// P5.1: any two numbers, small and great.
func TestAddAndSubOfMany(t *testing.T) {
	rnd := rand.New(rand.NewSource(51))
	for range 20000 {
		a, b := int(rnd.Uint64()), int(rnd.Uint64())
		wantPair(t, a>>rnd.Intn(64), b>>rnd.Intn(64))
	}
}

// P5.1: what is no amount is refused, though what comes of it would be one.
func TestNoAmounts(t *testing.T) {
	for _, n := range []int{most + 1, -most - 1, math.MaxInt, math.MinInt, math.MinInt + 1} {
		for _, with := range []int{0, n, -n} {
			x, e := money.Add(n, with)
			wantNumber(t, "Add of none", x, e, 0, api.ErrMoney)
			x, e = money.Add(with, n)
			wantNumber(t, "Add to none", x, e, 0, api.ErrMoney)
			x, e = money.Sub(n, with)
			wantNumber(t, "Sub from none", x, e, 0, api.ErrMoney)
			x, e = money.Sub(with, n)
			wantNumber(t, "Sub of none", x, e, 0, api.ErrMoney)
		}
		x, e := money.Sum([]int{n})
		wantNumber(t, "Sum of none's", x, e, 0, api.ErrMoney)
		x, e = money.Sum([]int{1, 2, n, 3})
		wantNumber(t, "Sum with none", x, e, 0, api.ErrMoney)
	}
}

// P5.1: no elements (W5), one, many; sums that leave the amounts on the way and come back.
func TestSum(t *testing.T) {
	for _, l := range [][]int{nil, {}, {0}, {-7}, {most}, {-most}, {1, 2, 3}, {most, -1, 1}, {most, 1, -1}, {most, 1, -2}, {-most, -1, 1}, {-most, -1, 2}, {-most, most, most}, {-most, most, most, 1, -1}, {most, -most, -most}, {1, most, -1}, {-1, most, 1}, {most, most}, {most + 1, -1}, {-1, most + 1}, {most, math.MaxInt, math.MinInt}, {0, 0, 0, math.MinInt}} {
		wantSum(t, l)
	}
	n, e := money.Sum(nil)
	wantNumber(t, "Sum of nil", n, e, 0, api.OK)
	n, e = money.Sum([]int{most, -most, -most, most, 5})
	wantNumber(t, "Sum there and back", n, e, 5, api.OK)
}

// P5.1: lists of any length, near the limits on either side.
func TestSumOfMany(t *testing.T) {
	rnd := rand.New(rand.NewSource(52))
	for range 5000 {
		l := make([]int, rnd.Intn(12))
		for i := range l {
			l[i] = rnd.Intn(most+1) >> rnd.Intn(4) * (1 - 2*rnd.Intn(2))
		}
		wantSum(t, l)
	}
	long := make([]int, 1<<20)
	for i := range long {
		long[i] = most >> 20
	}
	n, e := money.Sum(long)
	wantNumber(t, "Sum of 2^20", n, e, most, api.OK)
	n, e = money.Sum(append(long, 1))
	wantNumber(t, "Sum of 2^20 and 1", n, e, 0, api.ErrMoney)
	n, e = money.Sum(append([]int{1}, long...))
	wantNumber(t, "Sum of 1 and 2^20", n, e, 0, api.ErrMoney)
}

// P5.7: sums don't hang on the order, while none of them leaves the amounts; a difference added again is what there was.
func TestSumsFollow(t *testing.T) {
	rnd := rand.New(rand.NewSource(57))
	for range 2000 {
		l := make([]int, 1+rnd.Intn(8))
		for i := range l {
			l[i] = rnd.Intn(most/4+1) - most/8
		}
		n, e := money.Sum(l)
		rnd.Shuffle(len(l), func(i, k int) { l[i], l[k] = l[k], l[i] })
		m, e2 := money.Sum(l)
		if n != m || e != api.OK || e2 != api.OK {
			t.Fatal(l, n, m, e, e2)
		}
		a, b := l[0], n
		d, _ := money.Sub(a, b)
		if back, e := money.Add(d, b); back != a || e != api.OK {
			t.Fatal(a, b, d, back, e)
		}
	}
}

// wantSplit is P5.4: so many amounts that are together n, none more than 1 greater than another one, the greater ones first.
func wantSplit(t *testing.T, n, parts int) {
	t.Helper()
	l, e := money.Split(n, parts)
	if e != api.OK || len(l) != parts {
		t.Fatalf("Split(%d, %d): %d parts, %d", n, parts, len(l), e)
	}
	if sum, e := slowSum(l...); sum != n || e != api.OK {
		t.Errorf("Split(%d, %d): together %d, %d", n, parts, sum, e)
	}
	down := slices.IsSortedFunc(l, func(a, b int) int { return b - a })
	if !down || l[0]-l[parts-1] > 1 || l[parts-1] < 0 {
		t.Errorf("Split(%d, %d): %d", n, parts, l)
	}
}

func wantNoSplit(t *testing.T, n, parts int, want api.Errno) {
	t.Helper()
	if l, e := money.Split(n, parts); e != want || len(l) != 0 {
		t.Errorf("Split(%d, %d): %d, %d, not %d", n, parts, l, e, want)
	}
}

// P5.4: the chapter's examples.
func TestSplitOfTheChapter(t *testing.T) {
	for _, x := range []struct {
		n, parts int
		want     []int
	}{{10, 3, []int{4, 3, 3}}, {0, 2, []int{0, 0}}, {11, 3, []int{4, 4, 3}}, {2, 3, []int{1, 1, 0}}, {7, 1, []int{7}}} {
		if l, e := money.Split(x.n, x.parts); e != api.OK || !slices.Equal(l, x.want) {
			t.Errorf("Split(%d, %d): %d, %d", x.n, x.parts, l, e)
		}
	}
	wantNoSplit(t, 5, 0, api.ErrArg)
}

// P5.4: few and many parts, of amounts that are small and great.
func TestSplit(t *testing.T) {
	for _, n := range []int{0, 1, 2, 999, 1000, 1001, 123456789, most/1000*1000 - 1, most - 1, most} {
		for _, parts := range []int{1, 2, 3, 7, 512, 999, 1000} {
			wantSplit(t, n, parts)
		}
	}
	rnd := rand.New(rand.NewSource(54))
	for range 500 {
		wantSplit(t, rnd.Intn(most+1)>>rnd.Intn(54), 1+rnd.Intn(1000))
	}
}

// P5.4: what may not be; the amount is asked first (W4).
func TestSplitRefused(t *testing.T) {
	wrongParts := []int{0, -1, 1001, 1002, math.MaxInt, math.MinInt}
	for _, parts := range wrongParts {
		for _, n := range []int{0, 5, most} {
			wantNoSplit(t, n, parts, api.ErrArg)
		}
	}
	for _, n := range []int{-1, -5, -most, -most - 1, most + 1, math.MaxInt, math.MinInt} {
		for _, parts := range append(wrongParts, 1, 2, 1000) {
			wantNoSplit(t, n, parts, api.ErrMoney)
		}
	}
}

// P5.6: an answer that its owner changes changes no other one; what is handed in stays (W6).
func TestNewMemory(t *testing.T) {
	l, _ := money.Split(10, 3)
	for i := range l[:cap(l)] {
		l[:cap(l)][i] = -77
	}
	again, _ := money.Split(10, 3)
	if !slices.Equal(again, []int{4, 3, 3}) {
		t.Error("Split behind a change:", again)
	}
	all := []int{1, 2, 3, 88, 99}
	n, e := money.Sum(all[:3])
	wantNumber(t, "Sum", n, e, 6, api.OK)
	if !slices.Equal(all, []int{1, 2, 3, 88, 99}) {
		t.Error("Sum changed its list:", all)
	}
	all[0] = 5
	n, e = money.Sum(all[:3])
	wantNumber(t, "Sum of a changed list", n, e, 10, api.OK)
}
