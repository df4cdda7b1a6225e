package affine

import (
	"cmp"
	"slices"

	"klippe/api"
	"klippe/matrix"
	"klippe/rational"
	"klippe/vector"
)

// matrixOf returns a matrix with the numbers of some vectors as rows, and behind them those that a function tells.
func matrixOf(l []api.Vector, more func(i int) []api.Rational) matrix.Matrix {
	m := make(matrix.Matrix, len(l))
	for i, v := range l {
		m[i] = append([]api.Rational{v.X, v.Y, v.Z}, more(i)...)
	}
	return m
}

// square returns the matrix of three rows.
func square(rows [3]api.Vector) matrix.Matrix {
	return matrixOf(rows[:], func(int) []api.Rational { return nil })
}

// first returns the vector of the first three numbers of a list.
func first(l []api.Rational) api.Vector {
	return each(func(row int) api.Rational { return l[row] })
}

// isSingular reports whether a square matrix with right numbers has the determinant 0.
func isSingular(m matrix.Matrix) bool {
	rank, _ := matrix.Rank(m)
	return rank < len(m)
}

// Of returns the map that takes four places to four others.
func Of(from, to [4]api.Vector) (api.Affine, api.Errno) {
	for _, v := range slices.Concat(from[:], to[:]) {
		if e := vector.Check(v); e != api.OK {
			return api.Affine{}, e
		}
	}
	places := matrixOf(from[:], func(int) []api.Rational { return []api.Rational{"1"} })
	if isSingular(places) {
		return api.Affine{}, api.ErrDependent
	}
	// Each row, with the number of Shift behind it, is the solution of one system of equations.
	var a api.Affine
	var shift [3]api.Rational
	for i := range a.Rows {
		var right []api.Rational
		for _, v := range to {
			right = append(right, coordinates(v)[i])
		}
		x, _, e := matrix.Solve(places, right)
		if e != api.OK {
			return api.Affine{}, e
		}
		a.Rows[i], shift[i] = first(x), x[3]
	}
	a.Shift = first(shift[:])
	return a, api.OK
}

// Determinant returns the factor of volumes, with a sign.
func Determinant(a api.Affine) (api.Rational, api.Errno) {
	if e := Check(a); e != api.OK {
		return "", e
	}
	return matrix.Determinant(square(a.Rows))
}

// Inverse returns the map back.
func Inverse(a api.Affine) (api.Affine, api.Errno) {
	if e := Check(a); e != api.OK {
		return api.Affine{}, e
	}
	rows, e := matrix.Inverse(square(a.Rows))
	if e != api.OK {
		return api.Affine{}, e
	}
	var back api.Affine
	for i, row := range rows {
		back.Rows[i] = first(row)
	}
	back.Shift = plus(vector.Of(0, 0, 0), "-1", products(back.Rows, a.Shift))
	return rightMap(back)
}

// Push returns the plane to which a map takes a plane.
func Push(a api.Affine, p api.Plane) (api.Plane, api.Errno) {
	if e := cmp.Or(Check(a), vector.CheckPlane(p)); e != api.OK {
		return api.Plane{}, e
	}
	// The inverse can have numbers that are too long where the plane has none: so the plane is found as the one that is pulled to p.
	turned := square(columns(a.Rows))
	if isSingular(turned) {
		return api.Plane{}, api.ErrDependent
	}
	x, _, e := matrix.Solve(turned, []api.Rational{p.Normal.X, p.Normal.Y, p.Normal.Z})
	if e != api.OK {
		return api.Plane{}, e
	}
	normal := first(x)
	return rightPlane(normal, rational.Add(p.Offset, dot(normal, a.Shift)))
}

// Fixed returns the place that a map keeps, and the directions in which all others lie.
func Fixed(a api.Affine) (place api.Vector, free []api.Vector, found bool, e api.Errno) {
	if e := Check(a); e != api.OK {
		return api.Vector{}, nil, false, e
	}
	m, right := stay(a)
	x, kind, e := matrix.Solve(m, right)
	if e != api.OK || kind == matrix.None {
		return api.Vector{}, nil, false, e
	}
	kernel, e := matrix.Kernel(m)
	if e != api.OK {
		return api.Vector{}, nil, false, e
	}
	for _, l := range kernel {
		free = append(free, first(l))
	}
	return first(x), free, true, api.OK
}

// stay returns a system of equations for a place and the one to which a map takes it: both are the same. (A number of the rows less 1 could be too long for a system for one place.) As the second place has the last columns, its coordinates are those that can be free.
func stay(a api.Affine) (m matrix.Matrix, right []api.Rational) {
	unit := units()
	opposite := func(i int) []api.Rational {
		l := [3]api.Rational{"0", "0", "0"}
		l[i%3] = "-1"
		return l[:]
	}
	m = matrixOf(slices.Concat(a.Rows[:], unit[:]), opposite)
	for _, x := range coordinates(a.Shift) {
		right = append(right, rational.Neg(x))
	}
	return m, append(right, "0", "0", "0")
}
