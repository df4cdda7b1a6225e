package integer

import (
	"cmp"
	"math/bits"
	"slices"
)

const (
	width = 9             // digits of a piece
	base  = 1_000_000_000 // 10 to the power width
	fold  = 8 * base * base
)

// pieces has the digits of an integer that is not negative, width digits at a time, the lowest ones first; the last piece is not 0.
type pieces []int

// split cuts digits in pieces.
func split(digits string) pieces {
	x := make(pieces, 0, len(digits)/width+1)
	for end := len(digits); end > 0; end -= width {
		piece := 0
		for i := max(0, end-width); i < end; i++ {
			piece = piece*10 + int(digits[i]-'0')
		}
		x = append(x, piece)
	}
	return x.trim()
}

// trim leaves out the zeros at the end.
func (x pieces) trim() pieces {
	n := len(x)
	for n > 0 && x[n-1] == 0 {
		n--
	}
	return x[:n]
}

// at returns a piece, which is 0 behind the last one.
func (x pieces) at(i int) int {
	if i < len(x) {
		return x[i]
	}
	return 0
}

// value returns at most two pieces as an int.
func (x pieces) value() int { return x.at(1)*base + x.at(0) }

// cut divides a sum into a carry and a piece; for a negative sum the carry is negative.
func cut(sum int) (carry, piece int) {
	carry, piece = sum/base, sum%base
	if piece < 0 {
		return carry - 1, piece + base
	}
	return carry, piece
}

func (x pieces) compare(y pieces) int {
	if order := cmp.Compare(len(x), len(y)); order != 0 {
		return order
	}
	for i := len(x) - 1; i >= 0; i-- {
		if x[i] != y[i] {
			return cmp.Compare(x[i], y[i])
		}
	}
	return 0
}

// combine returns a x + b y, which must not be negative. The magnitudes of a and b are less than base; if both are greater than 1, their signs differ.
func (x pieces) combine(a int, y pieces, b int) pieces {
	z := make(pieces, max(len(x), len(y))+1)
	carry := 0
	for i := range z {
		carry, z[i] = cut(a*x.at(i) + b*y.at(i) + carry)
	}
	return z.trim()
}

func (x pieces) plus(y pieces) pieces { return x.combine(1, y, 1) }

// less returns the difference to an integer that is not greater.
func (x pieces) less(y pieces) pieces { return x.combine(1, y, -1) }

// times adds the products up column by column; a sum that reaches fold is lessened by it, so that it stays an int.
func (x pieces) times(y pieces) pieces {
	z := make(pieces, len(x)+len(y))
	carry := 0
	for k := range z {
		sum, folds := carry, 0
		for i := max(0, k-len(y)+1); i <= min(k, len(x)-1); i++ {
			sum += x[i] * y[k-i]
			if sum >= fold {
				sum -= fold
				folds++
			}
		}
		carry, z[k] = cut(sum)
		carry += folds * (fold / base)
	}
	return z.trim()
}

// power returns x to the power n.
func (x pieces) power(n int) pieces {
	result := pieces{1}
	for bit := bits.Len(uint(n)) - 1; bit >= 0; bit-- {
		result = result.times(result)
		if n>>bit&1 == 1 {
			result = result.times(x)
		}
	}
	return result
}

// divide returns the quotient and the remainder by an integer that is not 0.
func (x pieces) divide(y pieces) (q, r pieces) {
	if x.compare(y) < 0 {
		return nil, slices.Clone(x)
	}
	if len(y) == 1 {
		q, rest := x.divideShort(y[0])
		return q, pieces{rest}.trim()
	}
	// Both are multiplied by factor, so that the last piece of the divisor is at least half of base: then two pieces tell each digit of the quotient almost exactly.
	factor := base / (y[len(y)-1] + 1)
	v := y.combine(factor, nil, 0)
	n := len(v)
	u := append(x.combine(factor, nil, 0), 0)
	q = make(pieces, len(u)-n)
	for j := len(q) - 1; j >= 0; j-- {
		q[j] = reduce(u[j:j+n+1], v)
	}
	r, _ = u[:n].trim().divideShort(factor)
	return q.trim(), r
}

// reduce subtracts v from the rest u as often as possible, and returns how often.
func reduce(u, v pieces) int {
	n := len(v)
	top := u[n]*base + u[n-1]
	times := min(top/v[n-1], base-1)
	// The second piece of v lessens what the first one tells; behind that it is too great by 1 at most.
	for rest := top - times*v[n-1]; rest < base && times*v[n-2] > rest*base+u[n-2]; rest += v[n-1] {
		times--
	}
	carry := 0
	for i := range v {
		carry, u[i] = cut(u[i] - times*v[i] + carry)
	}
	u[n] += carry
	for u[n] < 0 {
		times--
		carry = 0
		for i := range v {
			carry, u[i] = cut(u[i] + v[i] + carry)
		}
		u[n] += carry
	}
	return times
}

// divideShort divides by an int from 1 to base.
func (x pieces) divideShort(divisor int) (q pieces, rest int) {
	q = make(pieces, len(x))
	for i := len(x) - 1; i >= 0; i-- {
		sum := rest*base + x[i]
		q[i], rest = sum/divisor, sum%divisor
	}
	return q.trim(), rest
}

// root returns the square root, rounded down.
func (x pieces) root() pieces {
	if len(x) <= 2 {
		return pieces{rootInt(x.value())}.trim()
	}
	// The root of the upper half is right in half of its digits; Newton's steps from above double them.
	lower := max(1, len(x)/4)
	above := x[2*lower:].root().plus(pieces{1})
	guess := append(make(pieces, lower), above...)
	for {
		quotient, _ := x.divide(guess)
		next, _ := guess.plus(quotient).divideShort(2)
		if next.compare(guess) >= 0 {
			return guess
		}
		guess = next
	}
}

// rootInt returns the square root of an int that is not negative, rounded down.
func rootInt(n int) int {
	if n == 0 {
		return 0
	}
	guess := 1 << ((bits.Len(uint(n)) + 1) / 2)
	for {
		next := (guess + n/guess) / 2
		if next >= guess {
			return guess
		}
		guess = next
	}
}
