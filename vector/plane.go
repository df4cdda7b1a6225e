package vector

import (
	"cmp"

	"klippe/api"
	"klippe/numbers"
	"klippe/rational"
)

// Side returns 1, 0 or -1, as a place is on the side to which the normal points, on the plane, or on the other side.
func Side(p api.Plane, v api.Vector) (int, api.Errno) {
	if e := cmp.Or(CheckPlane(p), Check(v)); e != api.OK {
		return 0, e
	}
	return rational.Compare(dot(p.Normal, v), p.Offset), api.OK
}

// Spanned returns the plane through three places.
func Spanned(a, b, c api.Vector) (api.Plane, api.Errno) {
	if e := cmp.Or(Check(a), Check(b), Check(c)); e != api.OK {
		return api.Plane{}, e
	}
	normal := cross(each(b, a, rational.Sub), each(c, a, rational.Sub))
	if normal == zero {
		return api.Plane{}, api.ErrDependent
	}
	p := api.Plane{Normal: normal, Offset: dot(normal, a)}
	return numbers.Result(p, normal.X, normal.Y, normal.Z, p.Offset)
}

// Common returns a place and the direction of the line that two planes have in common.
func Common(p, q api.Plane) (place, along api.Vector, e api.Errno) {
	if e := cmp.Or(CheckPlane(p), CheckPlane(q)); e != api.OK {
		return api.Vector{}, api.Vector{}, e
	}
	along = cross(p.Normal, q.Normal)
	if along == zero {
		return api.Vector{}, api.Vector{}, api.ErrNone
	}
	place = commonPlace(p, q, along)
	both, e := numbers.Result([2]api.Vector{place, along}, place.X, place.Y, place.Z, along.X, along.Y, along.Z)
	return both[0], both[1], e
}

// commonPlace returns the common place at which the first coordinate that changes along the common line is 0.
func commonPlace(p, q api.Plane, along api.Vector) api.Vector {
	a, b := p.Normal, q.Normal
	switch {
	case along.X != "0":
		rest, _ := meet(Line{a.Y, a.Z, p.Offset}, Line{b.Y, b.Z, q.Offset})
		return api.Vector{X: "0", Y: rest.X, Z: rest.Y}
	case along.Y != "0":
		rest, _ := meet(Line{a.X, a.Z, p.Offset}, Line{b.X, b.Z, q.Offset})
		return api.Vector{X: rest.X, Y: "0", Z: rest.Y}
	}
	rest, _ := meet(Line{a.X, a.Y, p.Offset}, Line{b.X, b.Y, q.Offset})
	return api.Vector{X: rest.X, Y: rest.Y, Z: "0"}
}

// Pierce returns how many times along leads from a place to the plane.
func Pierce(p api.Plane, from, along api.Vector) (k api.Rational, e api.Errno) {
	if e := cmp.Or(CheckPlane(p), Check(from), Check(along)); e != api.OK {
		return "", e
	}
	k, e = rational.Div(rational.Sub(p.Offset, dot(p.Normal, from)), dot(p.Normal, along))
	if e != api.OK {
		return "", api.ErrNone
	}
	return numbers.Result(k, k)
}
