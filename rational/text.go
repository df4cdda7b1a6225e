package rational

import (
	"strings"

	"klippe/api"
	"klippe/integer"
)

// Parse returns the number of a text: an integer, a fraction or a decimal fraction.
func Parse(s string) (api.Rational, api.Errno) {
	if s == "" {
		return "", api.ErrEmpty
	}
	sign, digits := "", s
	if s[0] == '+' || s[0] == '-' {
		sign, digits = s[:1], s[1:]
	}
	num, den, fraction := strings.Cut(digits, "/")
	if !fraction {
		num, den = decimal(digits)
	}
	if !isDigits(num) || !isDigits(den) {
		return "", api.ErrSyntax
	}
	if len(s) > api.MaxDigits {
		return "", api.ErrLong
	}
	// Neither call has an error: the digits are no more than those of the text.
	top, _ := integer.Parse(sign + num)
	bottom, _ := integer.Parse(den)
	return New(top, bottom)
}

// decimal returns numerator and denominator of a text with or without a point; the numerator is empty if there are no digits on one side of the point.
func decimal(s string) (num, den string) {
	before, after, point := strings.Cut(s, ".")
	if point && (before == "" || after == "") {
		return "", ""
	}
	return before + after, "1" + strings.Repeat("0", len(after))
}

func isDigits(s string) bool { return s != "" && strings.TrimLeft(s, "0123456789") == "" }

// Decimal returns the text of a number that is rounded to some decimal places.
func Decimal(x api.Rational, places int) (string, api.Errno) {
	if places < 0 || places > MaxPlaces {
		return "", api.ErrRange
	}
	rounded := nearest(x, api.Int("1"+strings.Repeat("0", places)))
	digits := string(integer.Abs(rounded))
	sign := strings.TrimSuffix(string(rounded), digits)
	if places == 0 {
		return sign + digits, api.OK
	}
	digits = strings.Repeat("0", max(0, places+1-len(digits))) + digits
	point := len(digits) - places
	return sign + digits[:point] + "." + digits[point:], api.OK
}
