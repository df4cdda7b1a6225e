// Package rational calculates with rational numbers of any size. It is layer 2: see shared/doc/02-rational.md.
package rational

import (
	"strings"

	"klippe/api"
	"klippe/integer"
)

// Limits of Round and Decimal.
const (
	MaxGrid   = 1_000_000
	MaxPlaces = 12
)

// shortLimit is the least int with more digits than Small permits.
const shortLimit = 1_000_000_000_000_000_000

// Check returns OK for a right number, otherwise ErrNumber.
func Check(x api.Rational) api.Errno {
	num, den, fraction := strings.Cut(string(x), "/")
	if e := integer.Check(api.Int(num)); e != api.OK || !fraction {
		return e
	}
	if e := integer.Check(api.Int(den)); e != api.OK {
		return e
	}
	if num == "0" || integer.Compare(api.Int(den), "1") <= 0 || integer.Gcd(api.Int(num), api.Int(den)) != "1" {
		return api.ErrNumber
	}
	return api.OK
}

// New returns the quotient of two integers.
func New(num, den api.Int) (api.Rational, api.Errno) {
	sign := integer.Sign(den)
	if sign == 0 {
		return "", api.ErrZero
	}
	if sign < 0 {
		num, den = integer.Neg(num), integer.Neg(den)
	}
	common := integer.Gcd(num, den)
	return join(over(num, common), over(den, common)), api.OK
}

// Of returns the quotient of two ints.
func Of(num, den int) (api.Rational, api.Errno) { return New(integer.Of(num), integer.Of(den)) }

// Whole returns an int as a number.
func Whole(n int) api.Rational { return api.Rational(integer.Of(n)) }

// Parts returns numerator and denominator.
func Parts(x api.Rational) (num, den api.Int) {
	before, after, fraction := strings.Cut(string(x), "/")
	if !fraction {
		return api.Int(x), "1"
	}
	return api.Int(before), api.Int(after)
}

// Small returns numerator and denominator as ints, if both have at most 18 digits.
func Small(x api.Rational) (num, den int, is bool) {
	n, d := Parts(x)
	num, isNum := integer.Small(n)
	den, isDen := integer.Small(d)
	if !isNum || !isDen || num <= -shortLimit || num >= shortLimit || den <= 0 || den >= shortLimit {
		return 0, 0, false
	}
	return num, den, true
}

// Floor returns the greatest integer that is not greater.
func Floor(x api.Rational) api.Int {
	num, den := Parts(x)
	if den == "1" {
		return num
	}
	return over(num, den)
}

// Round returns the nearest multiple of 1 / grid, and of two the greater one.
func Round(x api.Rational, grid int) (api.Rational, api.Errno) {
	if grid < 1 || grid > MaxGrid {
		return "", api.ErrRange
	}
	return New(nearest(x, integer.Of(grid)), integer.Of(grid))
}

// Root returns the square root, if it is rational.
func Root(x api.Rational) (root api.Rational, is bool) {
	num, den := Parts(x)
	top, isTop := rootOf(num)
	bottom, isBottom := rootOf(den)
	if !isTop || !isBottom {
		return "", false
	}
	return join(top, bottom), true
}

// rootOf returns the square root of an integer, if it is one.
func rootOf(a api.Int) (root api.Int, is bool) {
	root, e := integer.Root(a)
	if e != api.OK || integer.Mul(root, root) != a {
		return "", false
	}
	return root, true
}

// nearest returns the number of the multiple of 1 / grid that is nearest to x.
func nearest(x api.Rational, grid api.Int) api.Int {
	num, den := Parts(x)
	doubled := integer.Mul("2", integer.Mul(num, grid))
	return over(integer.Add(doubled, den), integer.Mul("2", den))
}

// over returns the quotient of two integers, rounded down.
func over(a, b api.Int) api.Int {
	if b == "1" {
		return a
	}
	q, _, _ := integer.DivMod(a, b)
	return q
}

// join returns the number with a numerator and a denominator that have no common divisor.
func join(num, den api.Int) api.Rational {
	if den == "1" {
		return api.Rational(num)
	}
	return api.Rational(num + "/" + den)
}
