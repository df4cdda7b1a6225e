package surd

import (
	"slices"

	"klippe/api"
	"klippe/integer"
	"klippe/rational"
)

// The remainders by some primes tell most integers that are no squares: their product, an integer of 18 digits, is divided by once for all of them.
const product = "307444891294245705"

var primes = [14]int{3, 5, 7, 11, 13, 17, 19, 23, 29, 31, 37, 41, 43, 47}

// marked is a term with what tells quickly that its Radicand is not alike to another one: a bit for each prime that does not divide the Radicand, and a bit for each of these by which it has the remainder of a square.
type marked struct {
	Term
	prime, square uint
}

// mark finds the bits of a term.
func mark(t Term) marked {
	m := marked{Term: t}
	_, r, _ := integer.DivMod(t.Radicand, product)
	rest, _ := integer.Small(r)
	for i, p := range primes {
		if rest%p == 0 {
			continue
		}
		m.prime |= 1 << i
		if isSquare(rest%p, p) {
			m.square |= 1 << i
		}
	}
	return m
}

// isSquare reports whether a square leaves a remainder by a prime.
func isSquare(rest, prime int) bool {
	for n := 1; n <= prime/2; n++ {
		if n*n%prime == rest {
			return true
		}
	}
	return false
}

// root returns the square root of the Radicand, if it is an integer.
func (m marked) root() (root api.Int, is bool) {
	if m.prime != m.square {
		return "", false
	}
	return squareRoot(m.Radicand)
}

// alike reports whether the Radicands of two terms are alike.
func (m marked) alike(n marked) bool {
	_, is := m.common(n)
	return is
}

// common returns the square root of the product of two Radicands, if they are alike.
func (m marked) common(n marked) (root api.Int, is bool) {
	switch {
	case m.Radicand == n.Radicand:
		return m.Radicand, true
	case m.prime&n.prime&(m.square^n.square) != 0:
		return "", false
	}
	return squareRoot(integer.Mul(m.Radicand, n.Radicand))
}

// squareRoot returns the square root of an integer, if it is an integer.
func squareRoot(a api.Int) (root api.Int, is bool) {
	x, is := rational.Root(api.Rational(a))
	root, _ = rational.Parts(x)
	return root, is
}

// join adds up the terms of all surds; change tells what becomes of a factor in the surd with an index. What it returns can be too long to be right.
func join(l []Surd, change func(index int, factor api.Rational) api.Rational) Surd {
	var sums []marked
	for i, s := range l {
		for _, t := range s {
			sums = include(sums, mark(Term{change(i, t.Factor), t.Radicand}))
		}
	}
	var joined Surd
	for _, m := range sums {
		if m.Factor != "0" {
			joined = append(joined, m.Term)
		}
	}
	slices.SortFunc(joined, func(a, b Term) int { return integer.Compare(a.Radicand, b.Radicand) })
	return joined
}

// include adds a term to the one with an alike Radicand, or puts it behind all others.
func include(sums []marked, m marked) []marked {
	var root api.Int
	i := slices.IndexFunc(sums, func(s marked) (is bool) {
		root, is = s.common(m)
		return is
	})
	if i < 0 {
		return append(sums, m)
	}
	least, other := sums[i], m
	if integer.Compare(other.Radicand, least.Radicand) < 0 {
		least, other = other, least
	}
	// The other root is the least one, multiplied by ratio.
	ratio, _ := rational.New(root, least.Radicand)
	least.Factor = rational.Add(least.Factor, rational.Mul(other.Factor, ratio))
	sums[i] = least
	return sums
}

// difference returns a less b, of any length.
func difference(a, b Surd) Surd {
	return join([]Surd{a, b}, func(index int, factor api.Rational) api.Rational {
		if index == 1 {
			return rational.Neg(factor)
		}
		return factor
	})
}
