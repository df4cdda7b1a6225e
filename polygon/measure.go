package polygon

import (
	"klippe/api"
	"klippe/numbers"
	"klippe/rational"
)

// Area returns the doubled area.
func Area(p []api.Point) (api.Rational, api.Errno) {
	if e := Check(p); e != api.OK {
		return "", e
	}
	area := rational.Sum(crosses(p)...)
	return numbers.Result(area, area)
}

// crosses returns, for each side, the doubled area of the triangle from the origin to it.
func crosses(p []api.Point) []api.Rational {
	var l []api.Rational
	for a, b := range around(p) {
		l = append(l, rational.Sub(rational.Mul(a.X, b.Y), rational.Mul(b.X, a.Y)))
	}
	return l
}

// Centroid returns the centre of gravity.
func Centroid(p []api.Point) (api.Point, api.Errno) {
	if e := Check(p); e != api.OK {
		return api.Point{}, e
	}
	areas := crosses(p)
	tripled := rational.Mul("3", rational.Sum(areas...))
	mean := func(number func(api.Point) api.Rational) api.Rational {
		sum := api.Rational("0")
		i := 0
		for a, b := range around(p) {
			sum = rational.Add(sum, rational.Mul(areas[i], rational.Add(number(a), number(b))))
			i++
		}
		quotient, _ := rational.Div(sum, tripled)
		return quotient
	}
	c := api.Point{X: mean(east), Y: mean(north)}
	return numbers.Result(c, c.X, c.Y)
}

func east(p api.Point) api.Rational  { return p.X }
func north(p api.Point) api.Rational { return p.Y }

// Box returns the least and the greatest coordinates.
func Box(p []api.Point) (low, high api.Point, e api.Errno) {
	if e := Check(p); e != api.OK {
		return api.Point{}, api.Point{}, e
	}
	low, high = p[0], p[0]
	for _, at := range p {
		low = api.Point{X: rational.Min(low.X, at.X), Y: rational.Min(low.Y, at.Y)}
		high = api.Point{X: rational.Max(high.X, at.X), Y: rational.Max(high.Y, at.Y)}
	}
	return low, high, api.OK
}
