package whole

import (
	"klippe/api"
	"klippe/integer"
	"klippe/rational"
)

// Ratio returns the quotient by an integer that is not 0 as a number.
func Ratio(x, y Int) api.Rational {
	if !x.isSmall() || !y.isSmall() {
		quotient, _ := rational.New(x.Text(), y.Text())
		return quotient
	}
	common, rest := y.small, x.small
	for rest != 0 {
		common, rest = rest, common%rest
	}
	num, den := x.small/common, y.small/common
	if den < 0 {
		num, den = -num, -den
	}
	if den == 1 {
		return api.Rational(integer.Of(num))
	}
	return api.Rational(integer.Of(num) + "/" + integer.Of(den))
}

// Common returns the numerators of some numbers over their least common denominator, which follows them.
func Common(l ...api.Rational) []Int {
	common := api.Int("1")
	for _, x := range l {
		if _, den := rational.Parts(x); den != common {
			share, _, _ := integer.DivMod(den, integer.Gcd(common, den))
			common = integer.Mul(common, share)
		}
	}
	all := Of(common)
	parts := make([]Int, len(l), len(l)+1)
	for i, x := range l {
		num, den := rational.Parts(x)
		parts[i] = Of(num)
		if den != common {
			parts[i] = parts[i].Mul(all.Over(Of(den)))
		}
	}
	return append(parts, all)
}

// Primitive returns the positive multiple of some numbers that has integers without a common divisor, and its factor. Zeros alone have the factor 1.
func Primitive(l ...api.Rational) (multiple []Int, factor api.Rational) {
	common, divisor := api.Int("1"), api.Int("0")
	for _, x := range l {
		num, den := rational.Parts(x)
		divisor = integer.Gcd(divisor, num)
		share, _, _ := integer.DivMod(den, integer.Gcd(common, den))
		common = integer.Mul(common, share)
	}
	factor, e := rational.New(common, divisor)
	if e != api.OK {
		factor = "1"
	}
	multiple = make([]Int, len(l))
	for i, x := range l {
		multiple[i] = Of(api.Int(rational.Mul(x, factor)))
	}
	return multiple, factor
}
