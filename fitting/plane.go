package fitting

import (
	"slices"

	"klippe/api"
	"klippe/attitude"
	"klippe/exact"
	"klippe/numbers"
	"klippe/program"
	"klippe/rational"
	"klippe/vector"
)

// search is the linear program for a plane: its variables are the slopes, the height and the greatest distance.
type search program.Problem

// add demands that a place is at most the greatest distance above the plane, and below it.
func (s *search) add(place api.Vector) {
	above := []api.Rational{rational.Neg(place.X), rational.Neg(place.Y), "-1", "-1"}
	below := []api.Rational{place.X, place.Y, "1", "-1"}
	s.Rows = append(s.Rows, api.Row{Factors: above, Bound: rational.Neg(place.Z)}, api.Row{Factors: below, Bound: place.Z})
}

// problemOf returns the problem of some places.
func problemOf(places []api.Vector) program.Problem {
	s := search{Variables: 4, Objective: []api.Rational{"0", "0", "0", "1"}}
	for _, place := range places {
		s.add(place)
	}
	return program.Problem(s)
}

// Plane returns a plane with the least greatest vertical distance from some places.
func Plane(places []api.Vector) (Fit, api.Errno) {
	if e := checkList(places, vector.Check); e != api.OK {
		return Fit{}, e
	}
	from := base(places)
	r, e := program.Minimize(problemOf(seenFrom(from, places)))
	if e != api.OK {
		return Fit{}, e
	}
	f := Fit{Slope: api.Point{X: r.Point[0], Y: r.Point[1]}, Most: r.Value, Dual: r.Dual}
	normal, _ := attitude.Normal(f.Slope)
	f.Height = rational.Add(r.Point[2], exact.Dot(normal, from))
	return numbers.Result(f, f.Height)
}

// base returns the first place, but with 0 for a number from which the differences are too long. Seen from there, a plane does not rise in a direction of which the places tell nothing, so it needs no long slope where a height will do. The dual is the same as seen from the origin.
func base(places []api.Vector) api.Vector {
	from := places[0]
	keep := func(number *api.Rational, difference api.Rational) {
		if rational.Check(difference) != api.OK {
			*number = "0"
		}
	}
	for _, way := range seenFrom(places[0], places) {
		keep(&from.X, way.X)
		keep(&from.Y, way.Y)
		keep(&from.Z, way.Z)
	}
	return from
}

// seenFrom returns the differences of some places from one.
func seenFrom(from api.Vector, places []api.Vector) []api.Vector {
	l := make([]api.Vector, len(places))
	for i, place := range places {
		l[i] = exact.Minus(place, from)
	}
	return l
}

// residuals returns by how much each place is above a plane, of any length as a text.
func residuals(places []api.Vector, f Fit) ([]api.Rational, api.Errno) {
	if e := checkList(places, vector.Check); e != api.OK {
		return nil, e
	}
	if e := numbers.Check(f.Slope.X, f.Slope.Y, f.Height); e != api.OK {
		return nil, e
	}
	normal, _ := attitude.Normal(f.Slope)
	l := make([]api.Rational, len(places))
	for i, place := range places {
		l[i] = rational.Sub(exact.Dot(normal, place), f.Height)
	}
	return l, api.OK
}

// distances returns the magnitudes of the residuals, of any length as a text.
func distances(places []api.Vector, f Fit) ([]api.Rational, api.Errno) {
	l, e := residuals(places, f)
	if e != api.OK {
		return nil, e
	}
	if e := rational.Check(f.Most); e != api.OK {
		return nil, e
	}
	for i, x := range l {
		l[i] = rational.Abs(x)
	}
	return l, api.OK
}

// Residuals returns by how much each place is above a plane.
func Residuals(places []api.Vector, f Fit) ([]api.Rational, api.Errno) {
	l, e := residuals(places, f)
	if e != api.OK {
		return nil, e
	}
	return numbers.Result(l, l...)
}

// Extreme returns the places with the greatest distance that the fit has.
func Extreme(places []api.Vector, f Fit) ([]int, api.Errno) {
	l, e := distances(places, f)
	if e != api.OK {
		return nil, e
	}
	var extreme []int
	for i, x := range l {
		if x == f.Most {
			extreme = append(extreme, i)
		}
	}
	return extreme, api.OK
}

// Verify returns OK for a right fit.
func Verify(places []api.Vector, f Fit) api.Errno {
	l, e := distances(places, f)
	if e != api.OK {
		return e
	}
	bound, e := program.Bound(problemOf(places), f.Dual)
	if e != api.OK {
		return e
	}
	if bound != f.Most || slices.MaxFunc(l, rational.Compare) != f.Most {
		return api.ErrCertificate
	}
	return api.OK
}
