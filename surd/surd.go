// Package surd calculates with sums of square roots (layer 3, see shared/doc/03-surd.md).
package surd

import (
	"slices"
	"strings"

	"klippe/api"
	"klippe/integer"
	"klippe/rational"
	"klippe/roots"
)

// Limits.
const (
	MaxTerms = 40
	MaxDen   = 1_000_000
)

// Term is a rational multiple of the square root of an integer.
type Term struct {
	Factor   api.Rational
	Radicand api.Int
}

// Surd is a sum of terms whose Radicands increase; 0 has none.
type Surd []Term

// Check returns OK for a right surd.
func Check(s Surd) api.Errno {
	if len(s) > MaxTerms {
		return api.ErrLimit
	}
	before := make([]roots.Marked, 0, len(s))
	for i, t := range s {
		if e := checkTerm(t); e != api.OK {
			return e
		}
		m := roots.Mark(roots.Term(t))
		if t.Radicand != "1" && m.IsSquare() {
			return api.ErrForm
		}
		if i > 0 && integer.Compare(t.Radicand, s[i-1].Radicand) <= 0 {
			return api.ErrOrder
		}
		if slices.ContainsFunc(before, m.IsAlike) {
			return api.ErrForm
		}
		before = append(before, m)
	}
	return api.OK
}

// checkTerm returns the first error of the numbers of a term.
func checkTerm(t Term) api.Errno {
	if e := rational.Check(t.Factor); e != api.OK {
		return e
	}
	if t.Factor == "0" {
		return api.ErrZero
	}
	if e := integer.Check(t.Radicand); e != api.OK {
		return e
	}
	if integer.Sign(t.Radicand) <= 0 {
		return api.ErrRange
	}
	return api.OK
}

// checkAll returns the first error of some surds.
func checkAll(l ...Surd) api.Errno {
	for _, s := range l {
		if e := Check(s); e != api.OK {
			return e
		}
	}
	return api.OK
}

// Of returns the square root of a number.
func Of(x api.Rational) (Surd, api.Errno) {
	if e := rational.Check(x); e != api.OK {
		return nil, e
	}
	if rational.Sign(x) < 0 {
		return nil, api.ErrRange
	}
	if x == "0" {
		return nil, api.OK
	}
	return result(Surd{Term(roots.Of(x))})
}

// From returns a number as a surd.
func From(x api.Rational) (Surd, api.Errno) {
	if e := rational.Check(x); e != api.OK {
		return nil, e
	}
	if x == "0" {
		return nil, api.OK
	}
	return Surd{{x, "1"}}, api.OK
}

// Add returns the sum.
func Add(a, b Surd) (Surd, api.Errno) { return Sum([]Surd{a, b}) }

// Sub returns the difference.
func Sub(a, b Surd) (Surd, api.Errno) {
	if e := checkAll(a, b); e != api.OK {
		return nil, e
	}
	return result(difference(a, b))
}

// Scale returns the multiple of a surd.
func Scale(a Surd, k api.Rational) (Surd, api.Errno) {
	if e := Check(a); e != api.OK {
		return nil, e
	}
	if e := rational.Check(k); e != api.OK {
		return nil, e
	}
	return result(join([]Surd{a}, func(_ int, factor api.Rational) api.Rational { return rational.Mul(factor, k) }))
}

// Sum returns the sum of a list.
func Sum(l []Surd) (Surd, api.Errno) {
	if e := checkAll(l...); e != api.OK {
		return nil, e
	}
	return result(join(l, func(_ int, factor api.Rational) api.Rational { return factor }))
}

// result returns a surd, or ErrLimit if it has become too long.
func result(s Surd) (Surd, api.Errno) {
	tooLong := func(t Term) bool {
		return rational.Check(t.Factor) != api.OK || integer.Check(t.Radicand) != api.OK
	}
	if len(s) > MaxTerms || slices.ContainsFunc(s, tooLong) {
		return nil, api.ErrLimit
	}
	return s, api.OK
}

// Same reports whether all terms are equal.
func Same(a, b Surd) bool { return slices.Equal(a, b) }

// Rational returns the rational number that a surd is, if it is one.
func Rational(a Surd) (x api.Rational, is bool, e api.Errno) {
	if e := Check(a); e != api.OK {
		return "", false, e
	}
	x, is = rationalOf(a)
	return x, is, api.OK
}

// rationalOf returns the rational number that a surd is: roots that are pairwise not alike never add up to one.
func rationalOf(a Surd) (x api.Rational, is bool) {
	switch {
	case len(a) == 0:
		return "0", true
	case len(a) == 1 && a[0].Radicand == "1":
		return a[0].Factor, true
	}
	return "", false
}

// Text returns the text of a surd.
func Text(a Surd) (string, api.Errno) {
	if e := Check(a); e != api.OK {
		return "", e
	}
	if len(a) == 0 {
		return "0", api.OK
	}
	plus, minus := "", "-"
	var text strings.Builder
	for _, t := range a {
		sign := plus
		if rational.Sign(t.Factor) < 0 {
			sign = minus
		}
		text.WriteString(sign + termText(t))
		plus, minus = " + ", " - "
	}
	return text.String(), api.OK
}

// termText returns the text of a term without its sign.
func termText(t Term) string {
	factor := string(rational.Abs(t.Factor))
	root := "sqrt(" + string(t.Radicand) + ")"
	switch {
	case t.Radicand == "1":
		return factor
	case factor == "1":
		return root
	}
	return factor + " " + root
}
