package attitude

import (
	"cmp"

	"klippe/api"
	"klippe/exact"
	"klippe/numbers"
	"klippe/rational"
	"klippe/vector"
)

// Fall is how much a plane falls along a direction of the map.
type Fall struct {
	Along api.Point
	By    api.Rational
}

// check returns the error of a fall.
func (f Fall) check() api.Errno { return cmp.Or(checkDirection(f.Along), rational.Check(f.By)) }

// Gradient returns the slopes of a plane to the east and to the north.
func Gradient(n api.Vector) (api.Point, api.Errno) {
	if e := checkSloping(n, api.OK); e != api.OK {
		return api.Point{}, e
	}
	x, e := numbers.Quotient(rational.Neg(n.X), n.Z)
	y, e2 := numbers.Quotient(rational.Neg(n.Y), n.Z)
	if e := cmp.Or(e, e2); e != api.OK {
		return api.Point{}, e
	}
	return api.Point{X: x, Y: y}, api.OK
}

// Normal returns the upward normal of a plane with a gradient.
func Normal(g api.Point) (api.Vector, api.Errno) {
	if e := vector.CheckPoint(g); e != api.OK {
		return api.Vector{}, e
	}
	return api.Vector{X: rational.Neg(g.X), Y: rational.Neg(g.Y), Z: "1"}, api.OK
}

// Three returns the plane through three places, with its Normal upward.
func Three(a, b, c api.Vector) (api.Plane, api.Errno) {
	if e := cmp.Or(vector.Check(a), vector.Check(b), vector.Check(c)); e != api.OK {
		return api.Plane{}, e
	}
	n := exact.Cross(exact.Minus(b, a), exact.Minus(c, a))
	switch {
	case isZero(n):
		return api.Plane{}, api.ErrDependent
	case isVertical(n):
		return api.Plane{}, api.ErrUnbounded
	}
	n, _ = exact.Primitive(upward(n))
	p := api.Plane{Normal: n, Offset: exact.Dot(n, a)}
	return numbers.Result(p, n.X, n.Y, n.Z, p.Offset)
}

// level returns the dot product of a normal with a vector without height.
func level(n api.Vector, at api.Point) api.Rational {
	return rational.Add(rational.Mul(n.X, at.X), rational.Mul(n.Y, at.Y))
}

// Height returns the height of a plane at a place of the map.
func Height(p api.Plane, at api.Point) (api.Rational, api.Errno) {
	if e := checkSloping(p.Normal, cmp.Or(rational.Check(p.Offset), vector.CheckPoint(at))); e != api.OK {
		return "", e
	}
	return numbers.Quotient(rational.Sub(p.Offset, level(p.Normal, at)), p.Normal.Z)
}

// Apparent returns how much a plane falls along a direction of the map.
func Apparent(n api.Vector, along api.Point) (api.Rational, api.Errno) {
	if e := checkSloping(n, checkDirection(along)); e != api.OK {
		return "", e
	}
	return numbers.Quotient(level(n, along), n.Z)
}

// True returns the normal, with 1 as Z, of the plane that falls so along two directions.
func True(a, b Fall) (api.Vector, api.Errno) {
	if e := cmp.Or(a.check(), b.check()); e != api.OK {
		return api.Vector{}, e
	}
	// X and Y of the normal have the falls as dot products with the directions.
	determinant := exact.Determinant(a.Along.X, a.Along.Y, b.Along.X, b.Along.Y)
	if determinant == "0" {
		return api.Vector{}, api.ErrDependent
	}
	x, e := numbers.Quotient(exact.Determinant(a.By, a.Along.Y, b.By, b.Along.Y), determinant)
	y, e2 := numbers.Quotient(exact.Determinant(a.Along.X, a.By, b.Along.X, b.By), determinant)
	if e := cmp.Or(e, e2); e != api.OK {
		return api.Vector{}, e
	}
	return api.Vector{X: x, Y: y, Z: "1"}, api.OK
}
