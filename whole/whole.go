// Package whole calculates with integers in binary words. Those of package integer are texts; the layers that combine the same integers again and again keep them here until they have a result.
package whole

import (
	"cmp"
	"math"
	"math/bits"
	"strings"

	"klippe/api"
	"klippe/integer"
)

// Int is an integer. It is an int, if its magnitude is at most the greatest one; otherwise it has a sign and words. Its value without anything is 0.
type Int struct {
	small int
	minus bool
	large words
}

// Of returns an integer that is canonical as a text.
func Of(a api.Int) Int {
	if n, is := integer.Small(a); is {
		return From(n)
	}
	digits := strings.TrimPrefix(string(a), "-")
	return signed(len(digits) < len(a), split(digits))
}

// From returns an int as an integer.
func From(n int) Int {
	if n == math.MinInt {
		return Int{minus: true, large: words{1 << 63}}
	}
	return Int{small: n}
}

// signed returns the integer of a magnitude.
func signed(minus bool, size words) Int {
	if len(size) > 1 || len(size) == 1 && size[0] > math.MaxInt {
		return Int{minus: minus, large: size}
	}
	n := 0
	if len(size) == 1 {
		n = int(size[0])
	}
	if minus {
		n = -n
	}
	return Int{small: n}
}

// isSmall reports whether an integer is an int.
func (x Int) isSmall() bool { return len(x.large) == 0 }

// size returns the magnitude.
func (x Int) size() words {
	switch {
	case !x.isSmall():
		return x.large
	case x.small == 0:
		return nil
	}
	return words{uint64(max(x.small, -x.small))}
}

// isLess reports whether an integer is less than 0.
func (x Int) isLess() bool { return x.minus || x.small < 0 }

// Text returns the canonical text.
func (x Int) Text() api.Int {
	switch {
	case x.isSmall():
		return integer.Of(x.small)
	case x.minus:
		return api.Int("-" + x.large.digits())
	}
	return api.Int(x.large.digits())
}

// Small returns an integer as an int, if it is one.
func (x Int) Small() (n int, is bool) { return x.small, x.isSmall() }

// Sign returns 1, 0 or -1, as an integer is greater than 0, 0, or less.
func (x Int) Sign() int {
	switch {
	case x.isSmall():
		return cmp.Compare(x.small, 0)
	case x.minus:
		return -1
	}
	return 1
}

// Words returns the number of words of the magnitude.
func (x Int) Words() int { return len(x.size()) }

// Without leaves out some of the lowest words: it divides by a power of 2, and rounds toward 0.
func (x Int) Without(lowest int) Int {
	size := x.size()
	return signed(x.isLess(), size[min(lowest, len(size)):])
}

// Compare returns the sign of x less y.
func Compare(x, y Int) int {
	if x.isSmall() && y.isSmall() {
		return cmp.Compare(x.small, y.small)
	}
	return x.Sub(y).Sign()
}

// Neg returns the opposite integer.
func (x Int) Neg() Int {
	if x.isSmall() {
		return Int{small: -x.small}
	}
	return Int{minus: !x.minus, large: x.large}
}

// Abs returns the magnitude.
func (x Int) Abs() Int {
	if x.isLess() {
		return x.Neg()
	}
	return x
}

// Add returns the sum.
func (x Int) Add(y Int) Int {
	if x.isSmall() && y.isSmall() {
		if sum := x.small + y.small; (sum > x.small) == (y.small > 0) && sum != math.MinInt {
			return Int{small: sum}
		}
	}
	minus, a, b := x.isLess(), x.size(), y.size()
	if minus == y.isLess() {
		return signed(minus, a.plus(b))
	}
	if a.compare(b) < 0 {
		return signed(!minus, b.less(a))
	}
	return signed(minus, a.less(b))
}

// Sub returns the difference.
func (x Int) Sub(y Int) Int { return x.Add(y.Neg()) }

// Mul returns the product.
func (x Int) Mul(y Int) Int {
	if x.isSmall() && y.isSmall() {
		high, low := bits.Mul64(uint64(max(x.small, -x.small)), uint64(max(y.small, -y.small)))
		if high == 0 && low <= math.MaxInt {
			return Int{small: x.small * y.small}
		}
	}
	return signed(x.isLess() != y.isLess(), x.size().times(y.size()))
}

// Over returns the quotient by a divisor of an integer; it is 0 if the divisor is 0.
func (x Int) Over(y Int) Int {
	switch {
	case y.Sign() == 0:
		return Int{}
	case x.isSmall() && y.isSmall():
		return Int{small: x.small / y.small}
	}
	return signed(x.isLess() != y.isLess(), x.size().over(y.size()))
}
