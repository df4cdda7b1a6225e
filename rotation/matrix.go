package rotation

import (
	"cmp"

	"klippe/api"
	"klippe/exact"
	"klippe/numbers"
	"klippe/rational"
	"klippe/vector"
)

// norm returns the sum of the squares of all parts.
func norm(t [4]int) int {
	sum := 0
	for _, part := range t {
		sum += part * part
	}
	return sum
}

// cosine returns the cosine of the angle, times the norm.
func cosine(t [4]int) int { return 2*t[0]*t[0] - norm(t) }

// Cosine returns the cosine of the angle.
func Cosine(t [4]int) (api.Rational, api.Errno) {
	if e := Check(t); e != api.OK {
		return "", e
	}
	return rational.Of(cosine(t), norm(t))
}

// Order returns how often a rotation must be repeated until nothing has moved, if it ever comes to that. Only the cosines -1, -1/2, 0, 1/2 and 1 are rational numbers of an angle that is a share of a full turn.
func Order(t [4]int) (n int, finite bool, e api.Errno) {
	if e := Check(t); e != api.OK {
		return 0, false, e
	}
	doubled, all := 2*cosine(t), norm(t)
	if doubled%all != 0 {
		return 0, false, api.OK
	}
	orders := [5]int{2, 3, 4, 6, 1}
	return orders[doubled/all+2], true, api.OK
}

// rows returns the rows of the matrix.
func rows(t [4]int) [3]api.Vector {
	var l [3]api.Vector
	for i := range l {
		l[i] = row(t, i, func(column int) int {
			if column == (i+1)%3 {
				return -1
			}
			return 1
		})
	}
	return l
}

// row returns a row of the matrix; sign tells for a column that is not on the diagonal whether the product with w is added or subtracted.
func row(t [4]int, i int, sign func(column int) int) api.Vector {
	all := norm(t)
	var l [3]api.Rational
	for column := range l {
		part := 2*(t[0]*t[0]+t[1+i]*t[1+i]) - all
		if column != i {
			// The third axis belongs neither to the row nor to the column.
			third := 3 - i - column
			part = 2 * (t[1+i]*t[1+column] + sign(column)*t[0]*t[1+third])
		}
		l[column], _ = rational.Of(part, all)
	}
	return api.Vector{X: l[0], Y: l[1], Z: l[2]}
}

// Matrix returns the rows of the matrix.
func Matrix(t [4]int) ([3]api.Vector, api.Errno) {
	if e := Check(t); e != api.OK {
		return [3]api.Vector{}, e
	}
	return rows(t), api.OK
}

// turned returns the dot products of the rows and a vector.
func turned(rows [3]api.Vector, v api.Vector) api.Vector {
	return api.Vector{X: exact.Dot(rows[0], v), Y: exact.Dot(rows[1], v), Z: exact.Dot(rows[2], v)}
}

// Apply returns a rotated vector.
func Apply(t [4]int, v api.Vector) (api.Vector, api.Errno) {
	if e := cmp.Or(Check(t), vector.Check(v)); e != api.OK {
		return api.Vector{}, e
	}
	to := turned(rows(t), v)
	return numbers.Result(to, to.X, to.Y, to.Z)
}

// About returns the map that rotates about an axis through a centre.
func About(t [4]int, centre api.Vector) (api.Affine, api.Errno) {
	if e := cmp.Or(Check(t), vector.Check(centre)); e != api.OK {
		return api.Affine{}, e
	}
	a := api.Affine{Rows: rows(t)}
	a.Shift = exact.Minus(centre, turned(a.Rows, centre))
	return numbers.Result(a, a.Shift.X, a.Shift.Y, a.Shift.Z)
}
