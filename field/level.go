package field

import (
	"cmp"

	"klippe/api"
	"klippe/exact"
	"klippe/numbers"
	"klippe/rational"
)

// Segment is a directed segment in a triangle.
type Segment struct {
	Triangle int
	From, To api.Point
}

// Part is a convex polygon in a triangle.
type Part struct {
	Triangle int
	Polygon  []api.Point
}

// cut is the part of a triangle above a height: its corners counterclockwise, each with the sign of its value less the height. There are none without a greater value. It can be the whole triangle, with the same corners.
type cut struct {
	corners []api.Point
	signs   []int
	isWhole bool
}

// above cuts a triangle at a height.
func (s facet) above(z api.Rational) cut {
	var over [3]api.Rational
	var signs [3]int
	for k, value := range s.values {
		over[k] = rational.Sub(value, z)
		signs[k] = rational.Sign(over[k])
	}
	if max(signs[0], signs[1], signs[2]) <= 0 {
		return cut{}
	}
	c := cut{isWhole: min(signs[0], signs[1], signs[2]) >= 0}
	for k, at := range s.at {
		next := (k + 1) % 3
		if signs[k] >= 0 {
			c.corners, c.signs = append(c.corners, at), append(c.signs, signs[k])
		}
		if signs[k]*signs[next] < 0 {
			share, _ := rational.Div(over[k], rational.Sub(over[k], over[next]))
			c.corners, c.signs = append(c.corners, toward(at, s.at[next], share)), append(c.signs, 0)
		}
	}
	return c
}

// toward returns the point with a share of the way from a to b, of any length.
func toward(a, b api.Point, share api.Rational) api.Point {
	part := func(from, to api.Rational) api.Rational {
		return rational.Add(from, rational.Mul(share, rational.Sub(to, from)))
	}
	return api.Point{X: part(a.X, b.X), Y: part(a.Y, b.Y)}
}

// side returns the corner at which the side begins on which all values are the height, if there is one.
func (c cut) side() (begin int, found bool) {
	for i, sign := range c.signs {
		if sign == 0 && c.signs[(i+1)%len(c.signs)] == 0 {
			return i, true
		}
	}
	return 0, false
}

// cuts cuts all triangles of a mesh at a height, or returns the first error.
func cuts(m api.Mesh, f api.Field, z api.Rational) ([]cut, api.Errno) {
	if e := cmp.Or(check(m, f), rational.Check(z)); e != api.OK {
		return nil, e
	}
	l := make([]cut, len(m.Triangles))
	for i := range l {
		l[i] = facetOf(m, f, i).above(z)
	}
	return l, api.OK
}

// Above returns the parts of the triangles above a height.
func Above(m api.Mesh, f api.Field, z api.Rational) ([]Part, api.Errno) {
	l, e := cuts(m, f, z)
	if e != api.OK {
		return nil, e
	}
	var parts []Part
	var contained []api.Rational
	for i, c := range l {
		if len(c.corners) == 0 {
			continue
		}
		parts = append(parts, Part{i, exact.FromLeast(c.corners)})
		for _, p := range c.corners {
			contained = append(contained, p.X, p.Y)
		}
	}
	return numbers.Result(parts, contained...)
}

// Level returns the level lines of a height.
func Level(m api.Mesh, f api.Field, z api.Rational) ([]Segment, api.Errno) {
	l, e := cuts(m, f, z)
	if e != api.OK {
		return nil, e
	}
	beyond := opposite(m)
	var lines []Segment
	var contained []api.Rational
	for i, c := range l {
		k, found := c.side()
		if !found {
			continue
		}
		next := (k + 1) % len(c.corners)
		if c.isWhole {
			// A side of the triangle is a line if there is a triangle beyond it, without a greater value.
			t := m.Triangles[i]
			third, isInner := beyond[[2]int{t[next], t[k]}]
			if !isInner || rational.Compare(f[third], z) > 0 {
				continue
			}
		}
		from, to := c.corners[k], c.corners[next]
		lines = append(lines, Segment{i, from, to})
		contained = append(contained, from.X, from.Y, to.X, to.Y)
	}
	return numbers.Result(lines, contained...)
}

// opposite returns, for each side of a triangle, the third point.
func opposite(m api.Mesh) map[[2]int]int {
	thirds := map[[2]int]int{}
	for _, t := range m.Triangles {
		for k := range t {
			thirds[[2]int{t[k], t[(k+1)%3]}] = t[(k+2)%3]
		}
	}
	return thirds
}
