package rational

import (
	"cmp"
	"math/bits"
	"strconv"

	"klippe/api"
	"klippe/integer"
)

// ints is a number whose parts have at most 18 digits.
type ints struct{ num, den int }

// long is a number whose parts have any length.
type long struct{ num, den api.Int }

// calculate does with ints what can be done with them, and the rest with integers of any length; withInts tells whether its result is right.
func calculate[T any](a, b api.Rational, withInts func(a, b ints) (T, bool), withLong func(a, b long) T) T {
	an, ad, isA := Small(a)
	bn, bd, isB := Small(b)
	if isA && isB {
		if result, fits := withInts(ints{an, ad}, ints{bn, bd}); fits {
			return result
		}
	}
	return withLong(partsOf(a), partsOf(b))
}

func partsOf(x api.Rational) long {
	num, den := Parts(x)
	return long{num, den}
}

// Compare returns the sign of a less b.
func Compare(a, b api.Rational) int {
	if a == b {
		return 0
	}
	if order := cmp.Compare(Sign(a), Sign(b)); order != 0 {
		return order
	}
	return calculate(a, b, compareInts, compareLong)
}

// Sign returns 1, 0 or -1, as a number is greater than 0, 0, or less.
func Sign(x api.Rational) int {
	num, _ := Parts(x)
	return integer.Sign(num)
}

// Min returns the lesser number.
func Min(a, b api.Rational) api.Rational {
	if Compare(a, b) <= 0 {
		return a
	}
	return b
}

// Max returns the greater number.
func Max(a, b api.Rational) api.Rational {
	if Compare(a, b) >= 0 {
		return a
	}
	return b
}

// Add returns the sum.
func Add(a, b api.Rational) api.Rational { return calculate(a, b, addInts, addLong) }

// Sub returns the difference.
func Sub(a, b api.Rational) api.Rational { return calculate(a, b, subInts, subLong) }

// Mul returns the product.
func Mul(a, b api.Rational) api.Rational { return calculate(a, b, mulInts, mulLong) }

// Div returns the quotient.
func Div(a, b api.Rational) (api.Rational, api.Errno) {
	num, den := Parts(b)
	switch integer.Sign(num) {
	case 0:
		return "", api.ErrZero
	case -1:
		num, den = integer.Neg(num), integer.Neg(den)
	}
	return Mul(a, join(den, num)), api.OK
}

// Neg returns the opposite number.
func Neg(x api.Rational) api.Rational {
	num, den := Parts(x)
	return join(integer.Neg(num), den)
}

// Abs returns the magnitude.
func Abs(x api.Rational) api.Rational {
	num, den := Parts(x)
	return join(integer.Abs(num), den)
}

// Sum returns the sum of all numbers.
func Sum(l ...api.Rational) api.Rational {
	sum := api.Rational("0")
	for _, x := range l {
		sum = Add(sum, x)
	}
	return sum
}

// Middle returns half of the sum.
func Middle(a, b api.Rational) api.Rational { return Mul(Add(a, b), "1/2") }

// compareInts compares numbers with the same sign by products of twice as many bits.
func compareInts(a, b ints) (int, bool) {
	aHigh, aLow := bits.Mul64(size(a.num), size(b.den))
	bHigh, bLow := bits.Mul64(size(b.num), size(a.den))
	order := cmp.Or(cmp.Compare(aHigh, bHigh), cmp.Compare(aLow, bLow))
	if a.num < 0 {
		return -order, true
	}
	return order, true
}

func compareLong(a, b long) int {
	return integer.Compare(integer.Mul(a.num, b.den), integer.Mul(b.num, a.den))
}

func addInts(a, b ints) (api.Rational, bool) {
	left, fitsLeft := product(a.num, b.den)
	right, fitsRight := product(b.num, a.den)
	den, fitsDen := product(a.den, b.den)
	return reduce(left+right, den), fitsLeft && fitsRight && fitsDen
}

func subInts(a, b ints) (api.Rational, bool) { return addInts(a, ints{-b.num, b.den}) }

func mulInts(a, b ints) (api.Rational, bool) {
	num, fitsNum := product(a.num, b.num)
	den, fitsDen := product(a.den, b.den)
	return reduce(num, den), fitsNum && fitsDen
}

// addLong divides by the common divisor of the denominators first: what the sum then has in common with the denominator divides this, too.
func addLong(a, b long) api.Rational {
	common := integer.Gcd(a.den, b.den)
	share := over(b.den, common)
	num := integer.Add(integer.Mul(a.num, share), integer.Mul(b.num, over(a.den, common)))
	again := integer.Gcd(num, common)
	return join(over(num, again), integer.Mul(over(a.den, again), share))
}

func subLong(a, b long) api.Rational { return addLong(a, long{integer.Neg(b.num), b.den}) }

// mulLong divides by the common divisors before the products are made.
func mulLong(a, b long) api.Rational {
	first, second := integer.Gcd(a.num, b.den), integer.Gcd(b.num, a.den)
	num := integer.Mul(over(a.num, first), over(b.num, second))
	return join(num, integer.Mul(over(a.den, second), over(b.den, first)))
}

func size(n int) uint64 { return uint64(max(n, -n)) }

// product returns a product and whether it is so small that a sum of two such ones is an int; otherwise it is 1.
func product(a, b int) (int, bool) {
	high, low := bits.Mul64(size(a), size(b))
	if high != 0 || low >= 1<<62 {
		return 1, false
	}
	return a * b, true
}

// reduce returns a quotient in lowest terms.
func reduce(num, den int) api.Rational {
	common, rest := den, max(num, -num)
	for rest != 0 {
		common, rest = rest, common%rest
	}
	var text [40]byte
	b := strconv.AppendInt(text[:0], int64(num/common), 10)
	if den != common {
		b = append(b, '/')
		b = strconv.AppendInt(b, int64(den/common), 10)
	}
	return api.Rational(b)
}
