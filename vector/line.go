package vector

import (
	"cmp"

	"klippe/api"
	"klippe/numbers"
	"klippe/rational"
)

// Line is a line of the map: the points for which A times X plus B times Y is C.
type Line struct{ A, B, C api.Rational }

func checkLine(l Line) api.Errno {
	if e := numbers.Check(l.A, l.B, l.C); e != api.OK {
		return e
	}
	if l.A == "0" && l.B == "0" {
		return api.ErrZero
	}
	return api.OK
}

// Through returns the line through two points.
func Through(a, b api.Point) (Line, api.Errno) {
	if e := checkPoints(a, b); e != api.OK {
		return Line{}, e
	}
	if a == b {
		return Line{}, api.ErrZero
	}
	to := way(b, a)
	l := Line{A: to.Y, B: rational.Neg(to.X), C: "0"}
	l.C = level(l, a)
	return numbers.Result(l, l.A, l.B, l.C)
}

// level returns A times X plus B times Y less C.
func level(l Line, p api.Point) api.Rational {
	return dot(api.Vector{X: l.A, Y: l.B, Z: "-1"}, api.Vector{X: p.X, Y: p.Y, Z: l.C})
}

// Meet returns the point that two lines have in common, if they are not parallel.
func Meet(a, b Line) (p api.Point, found bool, e api.Errno) {
	if e := cmp.Or(checkLine(a), checkLine(b)); e != api.OK {
		return api.Point{}, false, e
	}
	p, found = meet(a, b)
	if !found {
		return api.Point{}, false, api.OK
	}
	p, e = numbers.Result(p, p.X, p.Y)
	return p, e == api.OK, e
}

// meet returns the only solution of both equations, if there is one.
func meet(a, b Line) (p api.Point, found bool) {
	d := determinant(a.A, a.B, b.A, b.B)
	x, e := rational.Div(determinant(a.C, a.B, b.C, b.B), d)
	if e != api.OK {
		return api.Point{}, false
	}
	y, _ := rational.Div(determinant(a.A, a.C, b.A, b.C), d)
	return api.Point{X: x, Y: y}, true
}

// Cut returns the share of the point of a segment that is on a line, if there is exactly one.
func Cut(l Line, a, b api.Point) (k api.Rational, found bool, e api.Errno) {
	if e := cmp.Or(checkLine(l), checkPoints(a, b)); e != api.OK {
		return "", false, e
	}
	from, to := level(l, a), level(l, b)
	if from == to || rational.Sign(from)*rational.Sign(to) > 0 {
		return "", false, api.OK
	}
	k, _ = rational.Div(from, rational.Sub(from, to))
	k, e = numbers.Result(k, k)
	return k, e == api.OK, e
}
