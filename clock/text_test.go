package clock_test

import (
	"fmt"
	"math/big"
	"math/rand"
	"regexp"
	"slices"
	"strings"
	"testing"

	"farebox/api"
	"farebox/clock"
)

var words = []string{"Mon", "Tue", "Wed", "Thu", "Fri", "Sat", "Sun"}

// slowText is P6.4 of a time, told as it stands there.
func slowText(n int) string {
	return fmt.Sprintf("%d %s %02d:%02d", n/10080, words[n/1440%7], n/60%24, n%60)
}

// textOfTime is how the text of a time looks, but for its being too late.
var textOfTime = regexp.MustCompile(`^(0|[1-9][0-9]*) (Mon|Tue|Wed|Thu|Fri|Sat|Sun) ([01][0-9]|2[0-3]):([0-5][0-9])$`)

// slowParse is P6.4, likewise, in numbers that have no end.
func slowParse(s string) (int, api.Errno) {
	parts := textOfTime.FindStringSubmatch(s)
	if parts == nil {
		return 0, api.ErrArg
	}
	n := new(big.Int)
	add := func(part string, minutes int64) {
		count, _ := new(big.Int).SetString(part, 10)
		n.Add(n, count.Mul(count, big.NewInt(minutes)))
	}
	add(parts[1], 10080)
	add(parts[3], 60)
	add(parts[4], 1)
	n.Add(n, big.NewInt(int64(1440*slices.Index(words, parts[2]))))
	if n.Cmp(big.NewInt(lastTime)) > 0 {
		return 0, api.ErrArg
	}
	return int(n.Int64()), api.OK
}

func wantParse(t *testing.T, s string) {
	t.Helper()
	got, e := clock.Parse(s)
	if want, wantE := slowParse(s); got != want || e != wantE {
		t.Errorf("Parse(%q): %d, %d, not %d, %d", s, got, e, want, wantE)
	}
}

func wantNone(t *testing.T, l ...string) {
	t.Helper()
	for _, s := range l {
		if n, e := clock.Parse(s); n != 0 || e != api.ErrArg {
			t.Errorf("Parse(%q): %d, %d", s, n, e)
		}
	}
}

// wantText is P6.4 and P6.5: the text of a time, and the way back.
func wantText(t *testing.T, n int) {
	t.Helper()
	s := clock.Text(n)
	if want := slowText(n); s != want {
		t.Errorf("Text(%d): %q, not %q", n, s, want)
	}
	if back, e := clock.Parse(s); back != n || e != api.OK {
		t.Errorf("Parse(%q): %d, %d, not %d", s, back, e, n)
	}
}

// P6.4: the chapter's examples, both ways; the last minutes of a day, of a week, of all times.
func TestTextsOfTheChapter(t *testing.T) {
	for n, want := range map[int]string{
		0: "0 Mon 00:00", 10080 + 1440 + 61: "1 Tue 01:01", 270: "0 Mon 04:30", 1: "0 Mon 00:01", 59: "0 Mon 00:59", 60: "0 Mon 01:00", 600: "0 Mon 10:00", 1199: "0 Mon 19:59",
		1439: "0 Mon 23:59", 1440: "0 Tue 00:00", 2880: "0 Wed 00:00", 4320: "0 Thu 00:00", 5760: "0 Fri 00:00", 7200: "0 Sat 00:00", 8640: "0 Sun 00:00",
		10079: "0 Sun 23:59", 10080: "1 Mon 00:00", 10349: "1 Mon 04:29", 100799: "9 Sun 23:59", 100800: "10 Mon 00:00",
		lastTime - 1: "213044 Mon 02:07", lastTime: "213044 Mon 02:08",
	} {
		if got := clock.Text(n); got != want {
			t.Errorf("Text(%d): %q, not %q", n, got, want)
		}
		if got, e := clock.Parse(want); got != n || e != api.OK {
			t.Errorf("Parse(%q): %d, %d, not %d", want, got, e, n)
		}
	}
	wantNone(t, "0 Mon 4:30")
}

// P6.4, P6.5: all minutes of the first weeks, the edges, any.
func TestTexts(t *testing.T) {
	for n := range 3 * 10080 {
		wantText(t, n)
	}
	for _, n := range someTimes() {
		wantText(t, n)
	}
	rnd := rand.New(rand.NewSource(64))
	for range 20000 {
		wantText(t, anyTime(rnd))
	}
}

// P6.4: what is no time has no text, and no text is no time's.
func TestTextOfNoTime(t *testing.T) {
	for _, n := range notTimes() {
		if s := clock.Text(n); s != "" {
			t.Errorf("Text(%d): %q", n, s)
		}
	}
	wantNone(t, "")
}

// P6.4: signs, blanks, noughts, digits too few or too many.
func TestTextsOfNoForm(t *testing.T) {
	wantNone(t,
		"-1 Mon 00:00", "+1 Mon 00:00", "-0 Mon 00:00", "+0 Mon 00:00", "- Mon 00:00", "0 -Mon 00:00", "0 Mon -0:00", "0 Mon +0:00", "0 Mon -1:00", "0 Mon +4:30", "0 Mon -04:30", "0 Mon 00:-0", "0 Mon 00:+1", "0 Mon 01:-1", "0 Mon 01:-01", "1 Mon -1:00", "0 Tue -1:60",
		" 0 Mon 04:30", "0 Mon 04:30 ", "0  Mon 04:30", "0 Mon  04:30", "0 Mon 04 :30", "0 Mon 04: 30", "0 Mon 0 4:30", "0 M on 04:30", "0Mon 04:30", "0 Mon04:30", "0Mon04:30", "0 Mon 4 :30", "0 Mon  4:30", "0 Mon 04: 0", "\t0 Mon 04:30", "0\tMon 04:30", "0 Mon\t04:30", "0 Mon 04:30\n", "0 Mon 04:30\r", "\n0 Mon 04:30", "0\u00a0Mon 04:30", " ", "   ", " : ", ":", " Mon 04:30",
		"00 Mon 04:30", "01 Mon 04:30", "000 Mon 04:30", "0213044 Mon 02:08", "0 Mon 004:30", "0 Mon 04:030", "0 Mon 4:30", "0 Mon 04:3", "0 Mon 4:3", "0 Mon :30", "0 Mon 04:", "0 Mon :", "0 Mon 0:00", "0 Mon 00:0", "0 Mon 0000", "0 Mon 000:0", "0 Mon 0:000", "0 Mon 00:000", "0 Mon 000:00", "0 Mon 0430",
		"0", "0 ", "0 Mon", "0 Mon ", "Mon", "Mon 04:30", "04:30", "0 04:30", "0 0 04:30", "270", "0 Mon 04", "0 Mon 04:30:00", "0 Mon 04:30 0", "0 0 Mon 04:30", "0 Mon Mon 04:30", "0 Mon 04:30:", ":0 Mon 04:30", "0:Mon 04:30", "0 Mon:04:30", "0 Mon 04 30", "0:Mon:04:30", "0 Mon ::04:30", "0 Mon 04::30",
		"0 Mon 00-00", "0 Mon 04.30", "0 Mon 04;30", "0 Mon 04,30", "0,Mon,04:30", "0_Mon 04:30", "0 Mon 04:30x", "x0 Mon 04:30", "0x0 Mon 04:30", "1_0 Mon 04:30", "1e1 Mon 04:30", "0 Mon 0x:00", "0 Mon 04:3x", "0 Mon 04:x0", "x Mon 04:30", "0 Mon x4:30", "0 Mon 04:30\x00", "\x000 Mon 04:30", "0 Mon 04:\xff0", "\xff Mon 04:30", "0 Mon 04:3\u0660", "\u0660 Mon 04:30", "\uff10 Mon 04:30", "0 Mon 04\uff1a30", "0 Mon /4:30", "0 Mon 0::30", "0 Mon 0;:30",
	)
}

// P6.4: other words and letters for a day, whichever day they would be.
func TestTextsOfNoWeekday(t *testing.T) {
	for _, word := range words {
		for _, other := range []string{strings.ToLower(word), strings.ToUpper(word), word[:2], word[:1], "", word + "d", word + "day", " " + word, word + " ", word + word, word[:2] + strings.ToUpper(word[2:]), strings.ToLower(word[:1]) + word[1:], word[:2] + ".", word + ".", word[1:], "x" + word[1:], word[:2] + "x", word + "\x00"} {
			wantNone(t, "0 "+other+" 04:30", "1 "+other+" 00:00", "0 "+other+" 00:00")
		}
	}
	wantNone(t, "0 Day 00:00", "0 Son 00:00", "0 Mo 00:00", "0 Die 00:00", "0 Non 00:00", "0 MON 00:00", "0 mon 04:30", "0 Mun 00:00", "0 Sum 00:00", "0 0 00:00", "0 6 00:00", "0 Mön 00:00", "0 \u041con 00:00")
}

// P6.4: hours and minutes that there are none of, though there is a time of so many minutes.
func TestTextsOfNoHour(t *testing.T) {
	for hour := range 100 {
		for minute := range 100 {
			s := fmt.Sprintf("5 Wed %02d:%02d", hour, minute)
			if hour > 23 || minute > 59 {
				wantNone(t, s)
			}
			wantParse(t, s)
		}
	}
	wantNone(t, "0 Mon 24:00", "0 Mon 23:60", "0 Mon 00:60", "0 Mon 25:00", "0 Mon 99:99", "0 Sun 24:00", "0 Mon 100:00", "0 Mon 00:100")
}

// P6.4: times that are too late, such as would go round too: the text is none's, so it is ErrArg, not ErrTime.
func TestTextsTooLate(t *testing.T) {
	wantNone(t,
		"213044 Mon 02:09", "213044 Mon 03:00", "213044 Mon 03:08", "213044 Tue 00:00", "213044 Tue 02:08", "213044 Sun 23:59", "213045 Mon 00:00", "213045 Mon 02:08", "213050 Mon 00:00", "214000 Mon 00:00", "999999 Sun 23:59", "1000000 Mon 00:00", "2130440 Mon 02:08",
		"4294967296 Mon 00:00", "9999999999 Mon 00:00", "915020478260294 Mon 00:00", "1830040956520589 Mon 00:00", "9223372036854775807 Mon 00:00", "9223372036854775808 Mon 00:00", "18446744073709551616 Mon 00:00", "576460752303423488 Mon 00:00", "36028797018963968 Mon 00:00",
		"-213044 Mon 02:08", "-9223372036854775808 Mon 00:00",
		"0 Mon 00:18446744073709551616", "0 Mon 18446744073709551616:00", "0 Mon 00:2147483648",
		strings.Repeat("9", 1000)+" Mon 00:00", strings.Repeat("0", 1000)+" Mon 00:00", "0 Mon 00:00"+strings.Repeat(" ", 1000), "0 Mon 00:00"+strings.Repeat("0", 1000),
		strings.Repeat("0", 1<<20), strings.Repeat(" 1", 1<<20), strings.Repeat("0 Mon 04:30", 1000),
	)
	for week := 213030; week < 213060; week++ {
		for _, word := range words {
			for _, hours := range []string{"00:00", "02:07", "02:08", "02:09", "03:00", "23:59"} {
				wantParse(t, fmt.Sprintf("%d %s %s", week, word, hours))
			}
		}
	}
}

// P6.4, P6.5: texts with a byte changed, more, less: what is parsed has that text.
func TestTextsOfAnyBytes(t *testing.T) {
	rnd := rand.New(rand.NewSource(644))
	const used = "0123456789 :-+MonTueWedThuFriSatSun"
	for range 5000 {
		s := slowText(anyTime(rnd))
		at, c := rnd.Intn(len(s)), string(used[rnd.Intn(len(used))])
		for _, other := range []string{s[:at] + c + s[at:], s[:at] + c + s[at+1:], s[:at] + s[at+1:], s[:at], s[at:], s + c, c + s, "-" + s, "0" + s} {
			wantParse(t, other)
		}
	}
}

func FuzzParsed(f *testing.F) {
	for _, s := range []string{"0 Mon 04:30", "0 Mon 4:30", "213044 Mon 02:08", "213044 Mon 02:09", "", "1 Sun 23:59", "-1 Mon 00:00", "00 Tue 00:00", "0 Mon 24:00", "9999999999 Fri 00:00"} {
		f.Add(s)
	}
	f.Fuzz(func(t *testing.T, s string) {
		wantParse(t, s)
		if n, e := clock.Parse(s); e == api.OK && clock.Text(n) != s {
			t.Errorf("Parse(%q): %d, whose text is %q", s, n, clock.Text(n))
		}
	})
}
