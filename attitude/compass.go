package attitude

import (
	"cmp"

	"klippe/api"
	"klippe/numbers"
	"klippe/rational"
	"klippe/vector"
)

// Compass is a direction of the map: an octant from 0 (north to northeast) to 7, clockwise, and the tangent of the angle from its beginning or its end.
type Compass struct {
	Octant  int
	Tangent api.Rational
}

// checkDirection returns the error of a direction.
func checkDirection(d api.Point) api.Errno {
	if e := vector.CheckPoint(d); e != api.OK {
		return e
	}
	if d.X == "0" && d.Y == "0" {
		return api.ErrZero
	}
	return api.OK
}

// Of returns the compass direction of a direction of the map.
func Of(d api.Point) (Compass, api.Errno) {
	if e := checkDirection(d); e != api.OK {
		return Compass{}, e
	}
	first, ahead, aside := quadrant(d)
	c := Compass{Octant: first}
	if rational.Compare(aside, ahead) < 0 {
		c.Tangent, _ = rational.Div(aside, ahead)
	} else {
		c.Octant++
		c.Tangent, _ = rational.Div(ahead, aside)
	}
	return numbers.Result(c, c.Tangent)
}

// quadrant returns the first octant of a direction's quadrant, and how far the direction goes where the quadrant begins, which is more than 0, and where it ends.
func quadrant(d api.Point) (first int, ahead, aside api.Rational) {
	east, north := rational.Sign(d.X), rational.Sign(d.Y)
	switch {
	case east >= 0 && north > 0:
		return 0, d.Y, d.X
	case east > 0:
		return 2, d.X, rational.Neg(d.Y)
	case north < 0:
		return 4, rational.Neg(d.Y), rational.Neg(d.X)
	}
	return 6, rational.Neg(d.X), d.Y
}

// isBackward reports whether the tangent of a compass direction is that of the angle to the end of its octant.
func (c Compass) isBackward() bool { return c.Octant%2 == 1 }

// check returns the error of a compass direction.
func (c Compass) check() api.Errno {
	if c.Octant < 0 || c.Octant > 7 {
		return api.ErrRange
	}
	if e := rational.Check(c.Tangent); e != api.OK {
		return e
	}
	least, most := rational.Sign(c.Tangent), rational.Compare(c.Tangent, "1")
	// The border of two octants belongs to the second one.
	isOutside := least < 0 || most >= 0
	if c.isBackward() {
		isOutside = least <= 0 || most > 0
	}
	if isOutside {
		return api.ErrRange
	}
	return api.OK
}

// Before compares two compass directions, clockwise from the north.
func Before(a, b Compass) (int, api.Errno) {
	if e := cmp.Or(a.check(), b.check()); e != api.OK {
		return 0, e
	}
	if a.Octant != b.Octant {
		return cmp.Compare(a.Octant, b.Octant), api.OK
	}
	if a.isBackward() {
		a, b = b, a
	}
	return rational.Compare(a.Tangent, b.Tangent), api.OK
}
