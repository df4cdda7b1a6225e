// Package whole calculates with integers in binary words. Those of package integer are texts; the layers that combine the same integers again and again keep them here until they have a result.
package whole

import (
	"strings"

	"klippe/api"
	"klippe/integer"
	"klippe/rational"
)

// Int is an integer. Its value without words is 0, and has no sign.
type Int struct {
	minus bool
	size  words
}

// Of returns an integer that is canonical as a text.
func Of(a api.Int) Int {
	digits := strings.TrimPrefix(string(a), "-")
	return signed(len(digits) < len(a), split(digits))
}

// From returns an int as an integer.
func From(n int) Int { return Of(integer.Of(n)) }

func signed(minus bool, size words) Int { return Int{minus && len(size) > 0, size} }

// Text returns the canonical text.
func (x Int) Text() api.Int {
	switch {
	case len(x.size) == 0:
		return "0"
	case x.minus:
		return api.Int("-" + x.size.digits())
	}
	return api.Int(x.size.digits())
}

// Sign returns 1, 0 or -1, as an integer is greater than 0, 0, or less.
func (x Int) Sign() int {
	switch {
	case len(x.size) == 0:
		return 0
	case x.minus:
		return -1
	}
	return 1
}

// Compare returns the sign of x less y.
func Compare(x, y Int) int { return x.Sub(y).Sign() }

// Neg returns the opposite integer.
func (x Int) Neg() Int { return signed(!x.minus, x.size) }

// Abs returns the magnitude.
func (x Int) Abs() Int { return Int{false, x.size} }

// Add returns the sum.
func (x Int) Add(y Int) Int {
	if x.minus == y.minus {
		return signed(x.minus, x.size.plus(y.size))
	}
	if x.size.compare(y.size) < 0 {
		x, y = y, x
	}
	return signed(x.minus, x.size.less(y.size))
}

// Sub returns the difference.
func (x Int) Sub(y Int) Int { return x.Add(y.Neg()) }

// Mul returns the product.
func (x Int) Mul(y Int) Int { return signed(x.minus != y.minus, x.size.times(y.size)) }

// Over returns the quotient by a divisor of an integer; it is 0 if the divisor is 0.
func (x Int) Over(y Int) Int {
	if len(y.size) == 0 {
		return Int{}
	}
	return signed(x.minus != y.minus, x.size.over(y.size))
}

// Ratio returns the quotient by an integer that is not 0 as a number.
func Ratio(x, y Int) api.Rational {
	quotient, _ := rational.New(x.Text(), y.Text())
	return quotient
}

// Primitive returns the positive multiple of some numbers that has integers without a common divisor, and its factor. Zeros alone have the factor 1.
func Primitive(l ...api.Rational) (multiple []Int, factor api.Rational) {
	common, divisor := api.Int("1"), api.Int("0")
	for _, x := range l {
		num, den := rational.Parts(x)
		divisor = integer.Gcd(divisor, num)
		share, _, _ := integer.DivMod(den, integer.Gcd(common, den))
		common = integer.Mul(common, share)
	}
	factor, e := rational.New(common, divisor)
	if e != api.OK {
		factor = "1"
	}
	multiple = make([]Int, len(l))
	for i, x := range l {
		multiple[i] = Of(api.Int(rational.Mul(x, factor)))
	}
	return multiple, factor
}
