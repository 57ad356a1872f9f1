package money_test

import (
	"fmt"
	"math"
	"math/big"
	"math/rand"
	"regexp"
	"strings"
	"testing"

	"farebox/api"
	"farebox/money"
)

// slowText is P5.5, told as it stands there.
func slowText(n int) string {
	sign := ""
	if n < 0 {
		sign = "-"
	}
	pounds, pence := new(big.Int).DivMod(new(big.Int).Abs(big.NewInt(int64(n))), big.NewInt(100), new(big.Int))
	return fmt.Sprintf("%s%d.%02d", sign, pounds, pence)
}

// textOfAmount is how the text of some number looks; -0.00 is none's.
var textOfAmount = regexp.MustCompile(`^-?(0|[1-9][0-9]*)\.[0-9][0-9]$`)

// slowParse is P5.5, likewise.
func slowParse(s string) (int, api.Errno) {
	n, ok := new(big.Int).SetString(strings.Replace(s, ".", "", 1), 10)
	if !textOfAmount.MatchString(s) || s == "-0.00" || !ok || !slowRight(n) {
		return 0, api.ErrArg
	}
	return int(n.Int64()), api.OK
}

func wantParse(t *testing.T, s string) {
	t.Helper()
	got, e := money.Parse(s)
	if want, wantE := slowParse(s); got != want || e != wantE {
		t.Errorf("Parse(%q): %d, %d, not %d, %d", s, got, e, want, wantE)
	}
}

func wantNone(t *testing.T, s string) {
	t.Helper()
	if got, e := money.Parse(s); got != 0 || e != api.ErrArg {
		t.Errorf("Parse(%q): %d, %d", s, got, e)
	}
}

// wantText is P5.5 and P5.8: the text, and the way back, if n is an amount.
func wantText(t *testing.T, n int) {
	t.Helper()
	s := money.Text(n)
	if want := slowText(n); s != want {
		t.Errorf("Text(%d): %s, not %s", n, s, want)
	}
	if !money.Right(n) {
		wantNone(t, s)
	} else if back, e := money.Parse(s); back != n || e != api.OK {
		t.Errorf("Parse(%s): %d, %d", s, back, e)
	}
}

// P5.5: the chapter's examples, and the least and the greatest of all.
func TestTextsOfTheChapter(t *testing.T) {
	for n, want := range map[int]string{
		1234: "12.34", -5: "-0.05", 0: "0.00", 5: "0.05", 99: "0.99", -99: "-0.99", 100: "1.00", -100: "-1.00", 101: "1.01", 110: "1.10",
		most: "90071992547409.92", -most: "-90071992547409.92", most + 1: "90071992547409.93",
		math.MaxInt: "92233720368547758.07", math.MinInt: "-92233720368547758.08", math.MinInt + 1: "-92233720368547758.07",
	} {
		if got := money.Text(n); got != want {
			t.Errorf("Text(%d): %s, not %s", n, got, want)
		}
		wantText(t, n)
	}
	for s, want := range map[string]int{"12.34": 1234, "-0.05": -5, "0.00": 0, "0.50": 50, "-12.00": -1200} {
		if got, e := money.Parse(s); got != want || e != api.OK {
			t.Errorf("Parse(%q): %d, %d", s, got, e)
		}
	}
	for _, s := range []string{"-0.00", "01.00", "1.5", ".50"} {
		wantNone(t, s)
	}
}

// P5.5, P5.8: small ones, the edges, any.
func TestTexts(t *testing.T) {
	for n := -10100; n <= 10100; n++ {
		wantText(t, n)
	}
	for _, n := range edges() {
		wantText(t, n)
	}
	rnd := rand.New(rand.NewSource(55))
	for range 20000 {
		wantText(t, int(rnd.Uint64())>>rnd.Intn(64))
	}
}

// P5.5: texts that are none's.
func TestTextsOfNone(t *testing.T) {
	for _, s := range []string{
		"", ".", "-", "-.", "..", "--", "0", "1", "12", "100", "-5", "-100", "0.", "1.", "12.", "1.0", "1.5", ".5", ".50", "-.50", "1.234", "1.000", "0.000", "0.0", "00.00", "-00.00", "-0.00", "-0.0", "-0",
		"01.00", "001.00", "-01.00", "00.50", "+1.00", "+0.00", "+-1.00", "-+1.00", "--1.00", "1-.00", "1.-5", "1.5-", "1.00-", "-1.-5",
		" 1.00", "1.00 ", "1 .00", "1. 00", "1.0 ", "\t1.00", "1.00\n", "\n", " ", "1\x00.00", "1.00\x00", "\x00",
		"1,00", "1,000.00", "1..00", "1.0.0", ".100", "100.", "10.0", "1.00.", ".1.00", "1.00.00", "£1.00", "1.00p", "1e5", "1e2.00", "0x1.00", "1_0.00", "a", "a.bc", "1.ab", "a.00", "NaN", "Inf",
		"１.00", "1.0٠", "1\u00b7.00", "\xff1.00", "1.0\xff", "1.0:", "1.0/", ":.00", "/.00",
		"90071992547409.93", "-90071992547409.93", "90071992547410.00", "99999999999999.99", "100000000000000.00", "-100000000000000.00", "900719925474099.20", "92233720368547758.07", "-92233720368547758.08", "92233720368547758.08", "184467440737095516.16", "184467440737095517.16", "-184467440737095516.17", "99999999999999999999.00", "000000000000001.00", "-00000000000001.00",
	} {
		wantNone(t, s)
		wantParse(t, s)
	}
	wantNone(t, strings.Repeat("9", 1000)+".00")
	wantNone(t, strings.Repeat("0", 1<<20))
	wantNone(t, strings.Repeat("1", 15)+strings.Repeat(" ", 1<<20)+".00")
}

// P5.5, P5.8: any short text of the bytes that texts are made of, and texts with one byte changed, more, less: what is parsed has that text.
func TestTextsOfAnyBytes(t *testing.T) {
	rnd := rand.New(rand.NewSource(555))
	const used = "0123456789.-+ 019.-"
	for range 20000 {
		b := make([]byte, rnd.Intn(8))
		for i := range b {
			b[i] = used[rnd.Intn(len(used))]
		}
		wantParse(t, string(b))
	}
	for range 5000 {
		s := slowText((rnd.Intn(2*most+1) - most) >> rnd.Intn(54))
		at, c := rnd.Intn(len(s)), string(used[rnd.Intn(len(used))])
		for _, other := range []string{s[:at] + c + s[at:], s[:at] + c + s[at+1:], s[:at] + s[at+1:], s + c, "-" + s, "0" + s} {
			wantParse(t, other)
		}
	}
}

func FuzzParsed(f *testing.F) {
	for _, s := range []string{"12.34", "-0.05", "-0.00", "01.00", "1.5", ".50", "", "90071992547409.93", "-90071992547409.92"} {
		f.Add(s)
	}
	f.Fuzz(func(t *testing.T, s string) {
		wantParse(t, s)
		if n, e := money.Parse(s); e == api.OK && money.Text(n) != s {
			t.Errorf("Parse(%q): %d, whose text is %s", s, n, money.Text(n))
		}
	})
}
