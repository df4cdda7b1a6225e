package field

import (
	"cmp"

	"klippe/api"
	"klippe/exact"
	"klippe/numbers"
	"klippe/rational"
)

// Volume returns the volume between a field and a height.
func Volume(m api.Mesh, f api.Field, z api.Rational) (api.Rational, api.Errno) {
	if e := cmp.Or(check(m, f), rational.Check(z)); e != api.OK {
		return "", e
	}
	return integral(m, func(i int) api.Rational { return rational.Sub(f[i], z) })
}

// Excess returns the volume between two fields where the first one is greater.
func Excess(m api.Mesh, f, g api.Field) (api.Rational, api.Errno) {
	if e := check(m, f, g); e != api.OK {
		return "", e
	}
	return integral(m, func(i int) api.Rational { return rational.Sub(f[i], g[i]) })
}

// integral returns the integral of a function that is linear on each triangle, where it is greater than 0; over tells its value at a point of the mesh.
func integral(m api.Mesh, over func(i int) api.Rational) (api.Rational, api.Errno) {
	values := make([]api.Rational, len(m.Points))
	for i := range values {
		values[i] = over(i)
	}
	sum := api.Rational("0")
	for _, t := range m.Triangles {
		mean := positive([3]api.Rational{values[t[0]], values[t[1]], values[t[2]]})
		if mean != "0" {
			area := exact.Area([]api.Point{m.Points[t[0]], m.Points[t[1]], m.Points[t[2]]})
			sum = rational.Add(sum, rational.Mul(mean, area))
		}
	}
	// The means are three times as great, and the areas twice.
	sum = rational.Mul("1/6", sum)
	return numbers.Result(sum, sum)
}

// positive returns three times the mean of a linear function on a triangle, where it is counted as 0 if it is less; d has its values at the corners.
func positive(d [3]api.Rational) api.Rational {
	var greater, less []int
	for k, x := range d {
		switch rational.Sign(x) {
		case 1:
			greater = append(greater, k)
		case -1:
			less = append(less, k)
		}
	}
	sum := rational.Sum(d[:]...)
	switch {
	case len(greater) == 0:
		return "0"
	case len(less) == 0:
		return sum
	case len(greater) == 1:
		return corner(d, greater[0])
	}
	return rational.Sub(sum, corner(d, less[0]))
}

// corner returns three times the mean of a linear function that counts only around a corner, as far as it has the same sign as there.
func corner(d [3]api.Rational, k int) api.Rational {
	x := d[k]
	shares := rational.Mul(rational.Sub(x, d[(k+1)%3]), rational.Sub(x, d[(k+2)%3]))
	// The zeros on both sides cut off this part of the triangle, on which the mean is a third of the corner's value.
	part, _ := rational.Div(rational.Mul(x, x), shares)
	return rational.Mul(part, x)
}
