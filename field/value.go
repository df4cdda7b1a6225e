package field

import (
	"cmp"

	"klippe/api"
	"klippe/exact"
	"klippe/mesh"
	"klippe/numbers"
	"klippe/rational"
	"klippe/vector"
	"klippe/whole"
)

// facet is a field on a triangle: the places of its points, and the numbers there.
type facet struct {
	at     [3]api.Point
	values [3]api.Rational
}

func facetOf(m api.Mesh, f api.Field, triangle int) facet {
	var s facet
	for k, i := range m.Triangles[triangle] {
		s.at[k], s.values[k] = m.Points[i], f[i]
	}
	return s
}

// value returns the value of the linear function of a triangle at any place, and whether the triangle has the place.
func (s facet) value(p api.Point) (value api.Rational, has bool) {
	var corners [3]exact.Point
	for k, at := range s.at {
		corners[k] = exact.At(at)
	}
	parts, sum := exact.Weights(corners, exact.At(p))
	values := whole.Common(s.values[:]...)
	total := whole.Int{}
	has = true
	for k, part := range parts {
		total = total.Add(part.Mul(values[k]))
		has = has && part.Sign() >= 0
	}
	return whole.Ratio(total, sum.Mul(values[3])), has
}

// Value returns the value at a place.
func Value(m api.Mesh, f api.Field, p api.Point) (api.Rational, api.Errno) {
	if e := cmp.Or(check(m, f), vector.CheckPoint(p)); e != api.OK {
		return "", e
	}
	for i := range m.Triangles {
		if value, has := facetOf(m, f, i).value(p); has {
			return numbers.Result(value, value)
		}
	}
	return "", api.ErrOutside
}

// slope returns the slopes to the east and to the north.
func (s facet) slope() api.Point {
	var east, north, rise [2]api.Rational
	for k := range 2 {
		east[k] = rational.Sub(s.at[k+1].X, s.at[0].X)
		north[k] = rational.Sub(s.at[k+1].Y, s.at[0].Y)
		rise[k] = rational.Sub(s.values[k+1], s.values[0])
	}
	area := exact.Determinant(east[0], north[0], east[1], north[1])
	x, _ := rational.Div(exact.Determinant(rise[0], north[0], rise[1], north[1]), area)
	y, _ := rational.Div(exact.Determinant(east[0], rise[0], east[1], rise[1]), area)
	return api.Point{X: x, Y: y}
}

// slopeOn returns the slope on a triangle, of any length.
func slopeOn(m api.Mesh, f api.Field, triangle int) (api.Point, api.Errno) {
	if e := check(m, f); e != api.OK {
		return api.Point{}, e
	}
	if triangle < 0 || triangle >= len(m.Triangles) {
		return api.Point{}, api.ErrRange
	}
	return facetOf(m, f, triangle).slope(), api.OK
}

// Slope returns the slopes to the east and to the north on a triangle.
func Slope(m api.Mesh, f api.Field, triangle int) (api.Point, api.Errno) {
	slope, e := slopeOn(m, f, triangle)
	if e != api.OK {
		return api.Point{}, e
	}
	return numbers.Result(slope, slope.X, slope.Y)
}

// Normal returns an upward normal on a triangle.
func Normal(m api.Mesh, f api.Field, triangle int) (api.Vector, api.Errno) {
	slope, e := slopeOn(m, f, triangle)
	if e != api.OK {
		return api.Vector{}, e
	}
	normal := api.Vector{X: rational.Neg(slope.X), Y: rational.Neg(slope.Y), Z: "1"}
	return numbers.Result(normal, normal.X, normal.Y)
}

// Profile returns the knots of a field along a segment.
func Profile(m api.Mesh, f api.Field, a, b api.Point) ([]api.Knot, api.Errno) {
	if e := cmp.Or(check(m, f), vector.CheckPoint(a), vector.CheckPoint(b)); e != api.OK {
		return nil, e
	}
	if a == b {
		return nil, api.ErrZero
	}
	isFrom, _ := mesh.Contains(m, a)
	isTo, _ := mesh.Contains(m, b)
	if !isFrom || !isTo {
		return nil, api.ErrOutside
	}
	spans, e := mesh.Along(m, a, b)
	if e != api.OK {
		return nil, e
	}
	var knots []api.Knot
	var contained []api.Rational
	add := func(at, value api.Rational) {
		knots, contained = append(knots, api.Knot{At: at, Value: value}), append(contained, at, value)
	}
	for i, s := range spans {
		// The function of the triangle is linear between both ends of the segment, though they can lie outside of it.
		on := facetOf(m, f, s.Triangle)
		first, _ := on.value(a)
		last, _ := on.value(b)
		rise := rational.Sub(last, first)
		add(s.From, rational.Add(first, rational.Mul(s.From, rise)))
		if i == len(spans)-1 {
			add(s.To, rational.Add(first, rational.Mul(s.To, rise)))
		}
	}
	return numbers.Result(knots, contained...)
}
