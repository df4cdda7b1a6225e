package vector

import (
	"cmp"

	"klippe/api"
	"klippe/numbers"
	"klippe/rational"
)

// Turn tells to which side three points turn.
func Turn(a, b, c api.Point) (int, api.Errno) {
	if e := checkPoints(a, b, c); e != api.OK {
		return 0, e
	}
	return rational.Sign(area(a, b, c)), api.OK
}

// Area returns the doubled area of three points, with the sign of Turn.
func Area(a, b, c api.Point) (api.Rational, api.Errno) {
	if e := checkPoints(a, b, c); e != api.OK {
		return "", e
	}
	doubled := area(a, b, c)
	return numbers.Result(doubled, doubled)
}

func area(a, b, c api.Point) api.Rational {
	to, beyond := way(a, b), way(a, c)
	return determinant(to.X, to.Y, beyond.X, beyond.Y)
}

// way returns the differences from a point to another one.
func way(from, to api.Point) api.Point {
	return api.Point{X: rational.Sub(to.X, from.X), Y: rational.Sub(to.Y, from.Y)}
}

// checkPoints returns the first error of some points.
func checkPoints(l ...api.Point) api.Errno {
	for _, p := range l {
		if e := CheckPoint(p); e != api.OK {
			return e
		}
	}
	return api.OK
}

// Between reports whether p is on the segment from a to b.
func Between(a, b, p api.Point) (bool, api.Errno) {
	if e := checkPoints(a, b, p); e != api.OK {
		return false, e
	}
	return among(a.X, b.X, p.X) && among(a.Y, b.Y, p.Y) && area(a, b, p) == "0", api.OK
}

// among reports whether x is from a to b, or from b to a.
func among(a, b, x api.Rational) bool { return rational.Compare(a, x)*rational.Compare(x, b) >= 0 }

// Toward returns the point of the line from a to b that has a share.
func Toward(a, b api.Point, k api.Rational) (api.Point, api.Errno) {
	if e := cmp.Or(checkPoints(a, b), rational.Check(k)); e != api.OK {
		return api.Point{}, e
	}
	to := way(a, b)
	p := api.Point{X: rational.Add(a.X, rational.Mul(k, to.X)), Y: rational.Add(a.Y, rational.Mul(k, to.Y))}
	return numbers.Result(p, p.X, p.Y)
}
