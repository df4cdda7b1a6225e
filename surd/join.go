package surd

import (
	"klippe/api"
	"klippe/rational"
	"klippe/roots"
)

// join adds up the terms of all surds; change tells what becomes of a factor in the surd with an index. What it returns can be too long to be right.
func join(l []Surd, change func(index int, factor api.Rational) api.Rational) Surd {
	var sum roots.Sum
	for i, s := range l {
		for _, t := range s {
			sum.Add(roots.Term{Factor: change(i, t.Factor), Radicand: t.Radicand})
		}
	}
	var joined Surd
	for _, t := range sum.Terms() {
		joined = append(joined, Term(t))
	}
	return joined
}

// difference returns a less b, of any length.
func difference(a, b Surd) Surd {
	return join([]Surd{a, b}, func(index int, factor api.Rational) api.Rational {
		if index == 1 {
			return rational.Neg(factor)
		}
		return factor
	})
}
