package surd

import (
	"strings"

	"klippe/api"
	"klippe/integer"
	"klippe/rational"
)

// firstDigits is the number of decimal places with which a surd is enclosed first; it is doubled until they suffice.
const firstDigits = 12

// Equal reports whether two surds are equal as real numbers.
func Equal(a, b Surd) (bool, api.Errno) {
	if e := checkAll(a, b); e != api.OK {
		return false, e
	}
	return len(difference(a, b)) == 0, api.OK
}

// Sign returns -1, 0 or 1, as a surd is less than 0, 0, or greater.
func Sign(a Surd) (int, api.Errno) {
	if e := Check(a); e != api.OK {
		return 0, e
	}
	return signOf(a), api.OK
}

// Compare returns -1, 0 or 1, as a is less than b, equal, or greater.
func Compare(a, b Surd) (int, api.Errno) {
	if e := checkAll(a, b); e != api.OK {
		return 0, e
	}
	return signOf(difference(a, b)), api.OK
}

// signOf returns the sign of a surd of any length. The search ends, as a sum of roots that are pairwise not alike is not 0.
func signOf(s Surd) int {
	if len(s) == 0 {
		return 0
	}
	if sign := rational.Sign(s[0].Factor); commonSign(s, sign) {
		return sign
	}
	for digits := firstDigits; ; digits *= 2 {
		low, high := enclose(s, power(digits))
		switch {
		case integer.Sign(low) >= 0:
			return 1
		case integer.Sign(high) <= 0:
			return -1
		}
	}
}

// commonSign reports whether all factors have a sign.
func commonSign(s Surd, sign int) bool {
	for _, t := range s {
		if rational.Sign(t.Factor) != sign {
			return false
		}
	}
	return true
}

// power returns 10 to the power n, which is greater than integer.Power permits.
func power(n int) api.Int { return api.Int("1" + strings.Repeat("0", n)) }

// enclose returns integers between which scale times a surd lies, or with which it is equal.
func enclose(s Surd, scale api.Int) (low, high api.Int) {
	low = "0"
	for _, t := range s {
		num, den := rational.Parts(t.Factor)
		scaled := integer.Mul(integer.Abs(num), scale)
		root, _ := integer.Root(integer.Mul(integer.Mul(scaled, scaled), t.Radicand))
		size, _, _ := integer.DivMod(root, den)
		if integer.Sign(num) < 0 {
			size = integer.Sub("-1", size)
		}
		low = integer.Add(low, size)
	}
	return low, integer.Add(low, integer.Of(len(s)))
}

// Bounds returns the neighbouring multiples of 1 / den that enclose a surd.
func Bounds(a Surd, den int) (low, high api.Rational, e api.Errno) {
	if e := Check(a); e != api.OK {
		return "", "", e
	}
	if den < 1 || den > MaxDen {
		return "", "", api.ErrRange
	}
	grid := integer.Of(den)
	below, exact := floor(a, grid)
	above := below
	if !exact {
		above = integer.Add(below, "1")
	}
	low, _ = rational.New(below, grid)
	high, _ = rational.New(above, grid)
	if rational.Check(low) != api.OK || rational.Check(high) != api.OK {
		return "", "", api.ErrLimit
	}
	return low, high, api.OK
}

// floor returns the greatest integer that is not greater than grid times a surd, and whether it is equal. The search ends, as a surd that is not rational is no multiple of 1 / grid.
func floor(a Surd, grid api.Int) (below api.Int, exact bool) {
	if x, is := rationalOf(a); is {
		scaled := rational.Mul(x, api.Rational(grid))
		below = rational.Floor(scaled)
		return below, api.Rational(below) == scaled
	}
	for digits := firstDigits; ; digits *= 2 {
		unit := power(digits)
		low, high := enclose(a, integer.Mul(unit, grid))
		below, _, _ = integer.DivMod(low, unit)
		last, _, _ := integer.DivMod(high, unit)
		if below == last {
			return below, false
		}
	}
}
