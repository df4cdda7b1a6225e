// Package exact has points and lines of the map, and places and planes of space, in homogeneous integers. Such numbers can be of any length, and need no common divisor before a result is written; so the layers do their longer calculations with them.
package exact

import (
	"cmp"
	"slices"

	"klippe/api"
	"klippe/rational"
	"klippe/whole"
)

// Point has X and Y times W, and W, which is greater than 0.
type Point [3]whole.Int

// Line has A, B and -C: its points are those with A X + B Y = C, and on its left side this sum is greater.
type Line [3]whole.Int

// At returns a point of the map.
func At(p api.Point) Point { return Point(whole.Common(p.X, p.Y)) }

// Of returns the line of three numbers, of which A and B are not both 0.
func Of(a, b, c api.Rational) Line { return Line(whole.Common(a, b, rational.Neg(c))) }

// Through returns the line from a point to another one.
func Through(a, b Point) Line { return Line(cross(a, b)) }

// Text returns a point as it is written.
func (p Point) Text() api.Point {
	return api.Point{X: whole.Ratio(p[0], p[2]), Y: whole.Ratio(p[1], p[2])}
}

// Compare orders points by X, then by Y.
func Compare(p, q Point) int {
	for i := range 2 {
		if order := whole.Compare(p[i].Mul(q[2]), q[i].Mul(p[2])); order != 0 {
			return order
		}
	}
	return 0
}

// OrderPoints compares two points by X, then by Y, as they are written.
func OrderPoints(a, b api.Point) int {
	return cmp.Or(rational.Compare(a.X, b.X), rational.Compare(a.Y, b.Y))
}

// FromLeast returns the points around a ring from the least one on.
func FromLeast(ring []api.Point) []api.Point {
	least := 0
	for i, p := range ring {
		if OrderPoints(p, ring[least]) < 0 {
			least = i
		}
	}
	return slices.Concat(ring[least:], ring[:least])
}

// Area returns the doubled area of a ring, less than 0 if it is clockwise. It adds up the triangles at the first point, whose numbers are shorter than those of the origin's where the ring is far from it.
func Area(ring []api.Point) api.Rational {
	sum := api.Rational("0")
	for i := 2; i < len(ring); i++ {
		a, b, c := ring[0], ring[i-1], ring[i]
		sum = rational.Add(sum, Determinant(rational.Sub(b.X, a.X), rational.Sub(b.Y, a.Y), rational.Sub(c.X, a.X), rational.Sub(c.Y, a.Y)))
	}
	return sum
}

// Square returns the squared distance of two points.
func Square(a, b api.Point) api.Rational {
	x, y := rational.Sub(b.X, a.X), rational.Sub(b.Y, a.Y)
	return rational.Add(rational.Mul(x, x), rational.Mul(y, y))
}

// Weights returns numbers that are in proportion to the shares of three corners in a point, and their sum. If the corners turn left, the sum is greater than 0.
func Weights(corners [3]Point, p Point) (parts [3]whole.Int, sum whole.Int) {
	for i, c := range corners {
		// The height above the opposite side is in proportion to the share, but for the W of the corner.
		opposite := Through(corners[(i+1)%3], corners[(i+2)%3])
		parts[i] = opposite.Height(p).Mul(c[2])
		sum = sum.Add(parts[i])
	}
	return parts, sum
}

// Turn tells to which side three points turn: 1 is the left one.
func Turn(a, b, c Point) int { return Through(a, b).Side(c) }

// Meet returns the point of two lines that are not parallel.
func (l Line) Meet(m Line) Point {
	p := cross(l, m)
	if p[2].Sign() < 0 {
		p = [3]whole.Int{p[0].Neg(), p[1].Neg(), p[2].Neg()}
	}
	return p
}

// Side returns 1 for a point on the left side, 0 for one on the line, -1 for one on the right side.
func (l Line) Side(p Point) int { return l.Height(p).Sign() }

// Height returns a positive multiple of the distance of a point from the line; the right side is below 0. Points with the same W have the same multiple.
func (l Line) Height(p Point) whole.Int {
	return l[0].Mul(p[0]).Add(l[1].Mul(p[1])).Add(l[2].Mul(p[2]))
}

// Turn tells to which side the direction of a line turns to that of another one: 1 is the left one.
func (l Line) Turn(m Line) int { return whole.Compare(l[0].Mul(m[1]), l[1].Mul(m[0])) }

// IsUp reports whether the order of points grows in the direction of a line.
func (l Line) IsUp() bool { return cmp.Or(l[1].Sign(), -l[0].Sign()) > 0 }

// cross returns the cross product.
func cross(a, b [3]whole.Int) [3]whole.Int {
	part := func(i, j int) whole.Int { return a[i].Mul(b[j]).Sub(a[j].Mul(b[i])) }
	return [3]whole.Int{part(1, 2), part(2, 0), part(0, 1)}
}
