package roots

import (
	"klippe/api"
	"klippe/integer"
	"klippe/rational"
)

// The remainders by some primes tell most integers that are no squares: their product, an integer of 18 digits, is divided by once for all of them.
const product = "307444891294245705"

var primes = [14]int{3, 5, 7, 11, 13, 17, 19, 23, 29, 31, 37, 41, 43, 47}

// Marked is a term with what tells quickly that its Radicand is not alike to another one: a bit for each prime that does not divide the Radicand, and a bit for each of these by which it has the remainder of a square.
type Marked struct {
	Term
	prime, square uint
}

// Mark finds the bits of a term.
func Mark(t Term) Marked {
	m := Marked{Term: t}
	_, r, _ := integer.DivMod(t.Radicand, product)
	rest, _ := integer.Small(r)
	for i, p := range primes {
		if rest%p == 0 {
			continue
		}
		m.prime |= 1 << i
		if isSquare(rest%p, p) {
			m.square |= 1 << i
		}
	}
	return m
}

// isSquare reports whether a square leaves a remainder by a prime.
func isSquare(rest, prime int) bool {
	for n := 1; n <= prime/2; n++ {
		if n*n%prime == rest {
			return true
		}
	}
	return false
}

// IsSquare reports whether the Radicand is the square of an integer.
func (m Marked) IsSquare() bool {
	if m.prime != m.square {
		return false
	}
	_, is := squareRoot(m.Radicand)
	return is
}

// IsAlike reports whether the Radicands of two terms are alike: their product is the square of an integer.
func (m Marked) IsAlike(n Marked) bool {
	_, is := m.common(n)
	return is
}

// common returns the square root of the product of two Radicands, if they are alike.
func (m Marked) common(n Marked) (root api.Int, is bool) {
	switch {
	case m.Radicand == n.Radicand:
		return m.Radicand, true
	case m.prime&n.prime&(m.square^n.square) != 0:
		return "", false
	}
	return squareRoot(integer.Mul(m.Radicand, n.Radicand))
}

// squareRoot returns the square root of an integer, if it is an integer.
func squareRoot(a api.Int) (root api.Int, is bool) {
	x, is := rational.Root(api.Rational(a))
	root, _ = rational.Parts(x)
	return root, is
}
