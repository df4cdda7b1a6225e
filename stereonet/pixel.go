package stereonet

import (
	"cmp"
	"sort"

	"klippe/api"
	"klippe/exact"
	"klippe/rational"
	"klippe/whole"
)

// direction has integers that are in proportion to the numbers of a direction, and the square of their length.
type direction struct{ x, y, z, square whole.Int }

// axial returns a positive multiple of a direction.
func axial(v api.Vector) direction {
	l := whole.Common(v.X, v.Y, v.Z)
	return along(l[0], l[1], l[2])
}

func along(x, y, z whole.Int) direction {
	d := direction{x: x, y: y, z: z}
	d.square = d.dot(d)
	return d
}

func (d direction) dot(e direction) whole.Int {
	return d.x.Mul(e.x).Add(d.y.Mul(e.y)).Add(d.z.Mul(e.z))
}

// compare compares two sides by their signs, and where these are equal by their squares: that of the left side is less than the other one, equal to it or greater, as squares returns -1, 0 or 1.
func compare(left, right int, squares func() int) int {
	if left != right {
		return cmp.Compare(left, right)
	}
	return left * squares()
}

// compareRoot compares a multiple of a square root with a number.
func compareRoot(times, square, with whole.Int) int {
	return compare(times.Sign(), with.Sign(), func() int {
		return whole.Compare(times.Mul(times).Mul(square), with.Mul(with))
	})
}

// byAngle compares a multiple of the divisor of an equal-angle net with a number: x / w is the integer x, divided by the length less the integer z.
func (d direction) byAngle(times, with whole.Int) int {
	return compareRoot(times, d.square, with.Add(times.Mul(d.z)))
}

// byArea compares a multiple of the divisor of an equal-area net with a number. It is the square root of the length's square less the length times z.
func (d direction) byArea(times, with whole.Int) int {
	return compare(times.Sign(), with.Sign(), func() int {
		squared := times.Mul(times)
		return compareRoot(squared.Mul(d.z).Neg(), d.square, with.Mul(with).Sub(squared.Mul(d.square)))
	})
}

// nearest returns the integer that is nearest to the radius times x, divided by a divisor which is at least the magnitude of x; of two it is the greater one. The order of a multiple of the divisor and a number is told by a function.
func nearest(radius int, x whole.Int, order func(times, with whole.Int) int) int {
	doubled := x.Mul(whole.From(2 * radius))
	// It is the least integer for which the quotient is less than the next half.
	return sort.Search(2*radius, func(i int) bool {
		return order(whole.From(2*(i-radius)+1), doubled) > 0
	}) - radius
}

// pixel returns the pixel of a lower direction.
func (n Net) pixel(d direction) Dot {
	order := d.byAngle
	if n.Kind == EqualArea {
		order = d.byArea
	}
	return Dot{Column: nearest(n.Radius, d.x, order), Row: nearest(n.Radius, d.y, order)}
}

// Pixel returns the pixel of a direction.
func Pixel(n Net, v api.Vector) (Dot, api.Errno) {
	if e := cmp.Or(checkNumbers(v), n.check(), checkZeros(v)); e != api.OK {
		return Dot{}, e
	}
	return n.pixel(axial(lower(v))), api.OK
}

// Circle returns the pixels of the way of a plane.
func Circle(n Net, normal api.Vector, steps int) ([]Dot, api.Errno) {
	if e := cmp.Or(checkNumbers(normal), n.check(), checkZeros(normal)); e != api.OK {
		return nil, e
	}
	if steps < 1 || steps > MaxSteps {
		return nil, api.ErrRange
	}
	a := api.Vector{X: rational.Neg(normal.Y), Y: normal.X, Z: "0"}
	if normal.X == "0" && normal.Y == "0" {
		a = api.Vector{X: "1", Y: "0", Z: "0"}
	}
	b := lower(exact.Cross(normal, a))
	// The lengths of a and b matter, so both get the same factor.
	l := whole.Common(a.X, a.Y, a.Z, b.X, b.Y, b.Z)
	mix := func(k, m int) Dot {
		part := func(i int) whole.Int { return l[i].Mul(whole.From(k)).Add(l[i+3].Mul(whole.From(m))) }
		return n.pixel(along(part(0), part(1), part(2)))
	}
	var dots []Dot
	for i := range steps + 1 {
		dots = append(dots, mix(steps-i, i))
	}
	for i := 1; i <= steps; i++ {
		dots = append(dots, mix(-i, steps-i))
	}
	return dots, api.OK
}
