// Package roots adds up multiples of square roots whose numbers can have any length. Layer surd makes its sums with it; so do layers with lengths of lines, as a length can be a right surd although the roots on the way are too long for one.
package roots

import (
	"slices"

	"klippe/api"
	"klippe/integer"
	"klippe/rational"
)

// Term is a rational multiple of the square root of an integer greater than 0.
type Term struct {
	Factor   api.Rational
	Radicand api.Int
}

// Of returns the square root of a number greater than 0.
func Of(x api.Rational) Term {
	if root, is := rational.Root(x); is {
		return Term{root, "1"}
	}
	num, den := rational.Parts(x)
	factor, _ := rational.New("1", den)
	return Term{factor, integer.Mul(num, den)}
}

// Sum adds up terms. Those with alike radicands become one, which has the least of them. Its value without anything is 0.
type Sum struct{ terms []Marked }

// Add adds a term.
func (s *Sum) Add(t Term) {
	m := Mark(t)
	var root api.Int
	i := slices.IndexFunc(s.terms, func(before Marked) (is bool) {
		root, is = before.common(m)
		return is
	})
	if i < 0 {
		s.terms = append(s.terms, m)
		return
	}
	least, other := s.terms[i], m
	if integer.Compare(other.Radicand, least.Radicand) < 0 {
		least, other = other, least
	}
	// The other root is the least one, multiplied by ratio.
	ratio, _ := rational.New(root, least.Radicand)
	least.Factor = rational.Add(least.Factor, rational.Mul(other.Factor, ratio))
	s.terms[i] = least
}

// Len returns how many radicands are pairwise not alike.
func (s *Sum) Len() int { return len(s.terms) }

// Terms returns the terms whose factor is not 0, with increasing radicands.
func (s *Sum) Terms() []Term {
	var l []Term
	for _, m := range s.terms {
		if m.Factor != "0" {
			l = append(l, m.Term)
		}
	}
	slices.SortFunc(l, func(a, b Term) int { return integer.Compare(a.Radicand, b.Radicand) })
	return l
}
