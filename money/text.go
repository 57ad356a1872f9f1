package money

import (
	"strconv"
	"strings"

	"farebox/api"
)

// longest is how long the text of an amount may be: that of -MaxMoney. What is no longer has too few digits to go round.
const longest = len("-90071992547409.92")

// Text is an amount in pounds.
func Text(n int) string {
	sign, pounds, pence := "", n/100, n%100
	if n < 0 {
		sign, pounds, pence = "-", -pounds, -pence
	}
	return sign + strconv.Itoa(pounds) + "." + strconv.Itoa(pence/10) + strconv.Itoa(pence%10)
}

// Parse is the way back: it takes the digits that there are for an amount's, and asks whether s is the text of that one.
func Parse(s string) (int, api.Errno) {
	if len(s) > longest {
		return 0, api.ErrArg
	}
	n := digitsOf(s)
	if strings.HasPrefix(s, "-") {
		n = -n
	}
	if !Right(n) || Text(n) != s {
		return 0, api.ErrArg
	}
	return n, api.OK
}

// digitsOf is the number that the digits of a text are, whatever stands between them.
func digitsOf(s string) int {
	n := 0
	for i := range len(s) {
		if c := s[i]; c >= '0' && c <= '9' {
			n = 10*n + int(c-'0')
		}
	}
	return n
}
