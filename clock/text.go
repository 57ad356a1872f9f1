package clock

import (
	"strconv"
	"strings"

	"farebox/api"
)

// longest is how long the text of a time may be: that of MaxTime. The numbers in what is no longer are too small to go round.
const longest = len("213044 Mon 02:08")

var dayWords = [weekDays]string{"Mon", "Tue", "Wed", "Thu", "Fri", "Sat", "Sun"}

// Text is a time in words.
func Text(t int) string {
	if !Right(t) {
		return ""
	}
	week, word := strconv.Itoa(t/weekMinutes), dayWords[t%weekMinutes/dayMinutes]
	return week + " " + word + " " + twoDigits(t%dayMinutes/hourMinutes) + ":" + twoDigits(t%hourMinutes)
}

// Parse is the way back: it reckons what the parts of s come to, whatever they are, and asks whether s is the text of that time.
func Parse(s string) (int, api.Errno) {
	if len(s) > longest {
		return 0, api.ErrArg
	}
	parts := strings.FieldsFunc(s, func(r rune) bool { return r == ' ' || r == ':' })
	if len(parts) != 4 {
		return 0, api.ErrArg
	}
	t := number(parts[0])*weekMinutes + dayOf(parts[1])*dayMinutes + number(parts[2])*hourMinutes + number(parts[3])
	if Text(t) != s {
		return 0, api.ErrArg
	}
	return t, api.OK
}

func twoDigits(n int) string { return strconv.Itoa(n/10) + strconv.Itoa(n%10) }

// number is that of a text, 0 of what is none: Parse finds that out.
func number(s string) int {
	n, _ := strconv.Atoi(s)
	return n
}

// dayOf is the weekday of a word, 0 of what is none: Parse finds that out.
func dayOf(word string) int {
	for day, w := range dayWords {
		if w == word {
			return day
		}
	}
	return 0
}
