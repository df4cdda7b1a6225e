package matrix

import (
	"slices"

	"klippe/api"
	"klippe/numbers"
	"klippe/rational"
)

// The kinds of systems of equations.
const (
	One  = 1
	Many = 2
	None = 3
)

// Reduce returns the reduced form, with the columns of its leading elements.
func Reduce(m Matrix) (form Matrix, lead []int, e api.Errno) {
	if e := Check(m); e != api.OK {
		return nil, nil, e
	}
	reduced := reduce(m)
	form, e = fill(len(reduced.lead), columnsOf(m), reduced.element)
	if e != api.OK {
		return nil, nil, e
	}
	return form, reduced.lead, api.OK
}

// Rank returns the number of rows of the reduced form.
func Rank(m Matrix) (int, api.Errno) {
	if e := Check(m); e != api.OK {
		return 0, e
	}
	return len(reduce(m).lead), api.OK
}

// Determinant returns the determinant of a square matrix.
func Determinant(m Matrix) (api.Rational, api.Errno) {
	if e := checkSquare(m); e != api.OK {
		return "", e
	}
	reduced := reduce(m)
	if len(reduced.lead) < len(m) {
		return "0", api.OK
	}
	determinant, _ := rational.Div(api.Rational(reduced.common.Text()), reduced.scale)
	return numbers.Result(determinant, determinant)
}

// Inverse returns the matrix whose product with a square one is the identity.
func Inverse(m Matrix) (Matrix, api.Errno) {
	if e := checkSquare(m); e != api.OK {
		return nil, e
	}
	n := len(m)
	unit, _ := Identity(n)
	reduced := reduce(beside(m, func(i int) []api.Rational { return unit[i] }))
	// With the identity beside it, each matrix has n leading elements.
	if n > 0 && reduced.lead[n-1] >= n {
		return nil, api.ErrDependent
	}
	return fill(n, n, func(i, j int) api.Rational { return reduced.element(i, n+j) })
}

// Kernel returns the basis of the lists whose sums of products with each row are 0.
func Kernel(m Matrix) (Matrix, api.Errno) {
	if e := Check(m); e != api.OK {
		return nil, e
	}
	columns, reduced := columnsOf(m), reduce(m)
	var basis Matrix
	for j := range reduced.free(columns) {
		l, e := reduced.spread(columns, func(i int) api.Rational { return rational.Neg(reduced.element(i, j)) })
		if e != api.OK {
			return nil, e
		}
		l[j] = "1"
		basis = append(basis, l)
	}
	return basis, api.OK
}

// Solve returns the first solution of a system of equations, with its kind.
func Solve(m Matrix, right []api.Rational) (x []api.Rational, kind int, e api.Errno) {
	if e := checkList(m, right, len(m)); e != api.OK {
		return nil, 0, e
	}
	columns := columnsOf(m)
	reduced := reduce(beside(m, func(i int) []api.Rational { return right[i : i+1] }))
	rank := len(reduced.lead)
	if rank > 0 && reduced.lead[rank-1] == columns {
		return nil, None, api.OK
	}
	x, e = reduced.spread(columns, func(i int) api.Rational { return reduced.element(i, columns) })
	switch {
	case e != api.OK:
		return nil, 0, e
	case rank < columns:
		return x, Many, api.OK
	}
	return x, One, api.OK
}

// spread returns a list with a number for each leading element in its column, and 0 in the other columns.
func (e *echelon) spread(columns int, number func(i int) api.Rational) ([]api.Rational, api.Errno) {
	leading, failed := fillList(len(e.lead), number)
	if failed != api.OK {
		return nil, failed
	}
	l := slices.Repeat([]api.Rational{"0"}, columns)
	for i, j := range e.lead {
		l[j] = leading[i]
	}
	return l, api.OK
}
