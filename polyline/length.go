package polyline

import (
	"klippe/api"
	"klippe/exact"
	"klippe/roots"
	"klippe/surd"
)

// Length returns the length of a chain.
func Length(c []api.Point) (surd.Surd, api.Errno) {
	if e := Check(c); e != api.OK {
		return nil, e
	}
	return length(c)
}

// Around returns the length of all sides of a ring.
func Around(c []api.Point) (surd.Surd, api.Errno) {
	if e := Ring(c); e != api.OK {
		return nil, e
	}
	return length(closed(c))
}

// length adds up the lengths of segments. The roots are not those of package surd, as their sum can be right though they are too long.
func length(c []api.Point) (surd.Surd, api.Errno) {
	var sum roots.Sum
	for i, to := range c[1:] {
		sum.Add(roots.Of(exact.Square(c[i], to)))
		// Nothing is less than 0, so no term is lost again.
		if sum.Len() > surd.MaxTerms {
			return nil, api.ErrLimit
		}
	}
	var s surd.Surd
	for _, t := range sum.Terms() {
		s = append(s, surd.Term(t))
	}
	if surd.Check(s) != api.OK {
		return nil, api.ErrLimit
	}
	return s, api.OK
}
