// Package integer calculates with integers in decimal digits. It is layer 1: see shared/doc/01-integer.md.
package integer

import (
	"cmp"
	"strconv"
	"strings"

	"klippe/api"
)

// MaxPower is the greatest number of digits that a power is made of.
const MaxPower = 5000

// shortBytes is the length of texts that are calculated as ints: sums of two such integers are ints, too.
const shortBytes = 18

// Check returns OK for a right integer, otherwise ErrNumber.
func Check(a api.Int) api.Errno {
	digits := magnitude(a)
	if len(digits) > api.MaxDigits || !isDigits(digits) || digits[0] == '0' && a != "0" {
		return api.ErrNumber
	}
	return api.OK
}

// Of returns an int as an integer.
func Of(n int) api.Int { return api.Int(strconv.Itoa(n)) }

// Small returns the int that an integer is, and whether it is one.
func Small(a api.Int) (value int, is bool) {
	if len(a) > len("-9223372036854775808") {
		return 0, false
	}
	n, err := strconv.ParseInt(string(a), 10, 64)
	if err != nil {
		return 0, false
	}
	return int(n), true
}

// Parse returns the integer that a text writes, which can have a sign and superfluous zeros.
func Parse(text string) (api.Int, api.Errno) {
	if text == "" {
		return "", api.ErrEmpty
	}
	digits := text
	if text[0] == '+' || text[0] == '-' {
		digits = text[1:]
	}
	if !isDigits(digits) {
		return "", api.ErrSyntax
	}
	digits = strings.TrimLeft(digits, "0")
	switch {
	case len(digits) > api.MaxDigits:
		return "", api.ErrLimit
	case digits == "":
		return "0", api.OK
	case text[0] == '-':
		return api.Int("-" + digits), api.OK
	}
	return api.Int(digits), api.OK
}

// Sign returns 1, 0 or -1, as an integer is greater than 0, 0, or less.
func Sign(a api.Int) int {
	switch {
	case a == "" || a == "0":
		return 0
	case a[0] == '-':
		return -1
	}
	return 1
}

// Compare returns the sign of a less b.
func Compare(a, b api.Int) int {
	sign := Sign(a)
	if order := cmp.Compare(sign, Sign(b)); order != 0 {
		return order
	}
	// Of two canonical integers with the same sign, the longer one has the greater magnitude.
	return sign * cmp.Or(cmp.Compare(len(a), len(b)), strings.Compare(string(a), string(b)))
}

// Neg returns the opposite integer.
func Neg(a api.Int) api.Int {
	switch Sign(a) {
	case -1:
		return a[1:]
	case 1:
		return "-" + a
	}
	return "0"
}

// Abs returns the magnitude.
func Abs(a api.Int) api.Int { return api.Int(magnitude(a)) }

// Add returns the sum.
func Add(a, b api.Int) api.Int {
	if x, y, are := ints(a, b); are {
		return Of(x + y)
	}
	return read(a).plus(read(b)).text()
}

// Sub returns the difference.
func Sub(a, b api.Int) api.Int {
	if x, y, are := ints(a, b); are {
		return Of(x - y)
	}
	return read(a).plus(read(b).opposite()).text()
}

// Mul returns the product.
func Mul(a, b api.Int) api.Int {
	if len(a)+len(b) <= shortBytes {
		if x, y, are := ints(a, b); are {
			return Of(x * y)
		}
	}
	x, y := read(a), read(b)
	return number{x.minus != y.minus, x.size.times(y.size)}.text()
}

// Power returns a to the power n.
func Power(a api.Int, n int) (api.Int, api.Errno) {
	if n < 0 {
		return "", api.ErrRange
	}
	// The limit is divided, as the product of n and the number of digits can be too great for an int.
	if n > MaxPower/max(1, len(magnitude(a))) {
		return "", api.ErrLimit
	}
	x := read(a)
	return number{x.minus && n%2 == 1, x.size.power(n)}.text(), api.OK
}

// DivMod returns the quotient and the remainder, which is not negative.
func DivMod(a, b api.Int) (q, r api.Int, e api.Errno) {
	if x, y, are := ints(a, b); are && y != 0 {
		quotient, remainder := divideInts(x, y)
		return Of(quotient), Of(remainder), api.OK
	}
	x, y := read(a), read(b)
	if len(y.size) == 0 {
		return "", "", api.ErrZero
	}
	quotient, remainder := x.size.divide(y.size)
	if x.minus && len(remainder) > 0 {
		quotient, remainder = quotient.plus(pieces{1}), y.size.less(remainder)
	}
	return number{x.minus != y.minus, quotient}.text(), number{false, remainder}.text(), api.OK
}

// Gcd returns the greatest common divisor; it is 0 if both integers are 0.
func Gcd(a, b api.Int) api.Int {
	if x, y, are := ints(a, b); are {
		return Of(gcdInts(max(x, -x), max(y, -y)))
	}
	return number{false, read(a).size.gcd(read(b).size)}.text()
}

// Root returns the square root, rounded down.
func Root(a api.Int) (api.Int, api.Errno) {
	if Sign(a) < 0 {
		return "", api.ErrRange
	}
	return number{false, read(a).size.root()}.text(), api.OK
}

// magnitude returns the digits of an integer.
func magnitude(a api.Int) string { return strings.TrimPrefix(string(a), "-") }

// isDigits reports whether a text consists of digits, and has one.
func isDigits(s string) bool {
	for i := range len(s) {
		if s[i]-'0' > 9 {
			return false
		}
	}
	return s != ""
}

// ints returns two integers as ints, if both have at most shortBytes bytes.
func ints(a, b api.Int) (x, y int, are bool) {
	if max(len(a), len(b)) > shortBytes {
		return 0, 0, false
	}
	x, isX := Small(a)
	y, isY := Small(b)
	return x, y, isX && isY
}

// divideInts divides like DivMod.
func divideInts(x, y int) (q, r int) {
	q, r = x/y, x%y
	switch {
	case r < 0 && y > 0:
		return q - 1, r + y
	case r < 0:
		return q + 1, r - y
	}
	return q, r
}

// gcdInts returns the greatest common divisor of two ints that are not negative.
func gcdInts(x, y int) int {
	for y != 0 {
		x, y = y, x%y
	}
	return x
}
