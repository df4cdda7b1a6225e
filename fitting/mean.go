package fitting

import (
	"klippe/api"
	"klippe/exact"
	"klippe/lineation"
	"klippe/numbers"
	"klippe/rational"
	"klippe/whole"
)

// units returns the sum of the normals of a list, divided by their lengths, times the least common multiple of the lengths of their primitive vectors.
func units(normals []api.Vector) (sum exact.Direction, multiple whole.Int, e api.Errno) {
	if e := checkList(normals, lineation.Check); e != api.OK {
		return exact.Direction{}, whole.Int{}, e
	}
	l := directions(normals)
	lengths := make([]whole.Int, len(l))
	for i, n := range l {
		// The root can be longer than that which package rotation returns.
		length, is := rational.Root(api.Rational(n.Dot(n).Text()))
		if !is {
			return exact.Direction{}, whole.Int{}, api.ErrRoot
		}
		lengths[i] = whole.Of(api.Int(length))
	}
	each, multiple := shares(lengths)
	for i, n := range l {
		sum = sum.Plus(n.Times(each[i]))
	}
	return sum, multiple, api.OK
}

// Mean returns the direction of the sum of unit normals.
func Mean(normals []api.Vector) (api.Vector, api.Errno) {
	sum, _, e := units(normals)
	if e != api.OK {
		return api.Vector{}, e
	}
	if sum.IsZero() {
		return api.Vector{}, api.ErrNone
	}
	mean := sum.Text()
	return numbers.Result(mean, mean.X, mean.Y, mean.Z)
}

// Spread returns the squared length of the sum of unit normals, divided by the squared number of normals: 1 if all agree.
func Spread(normals []api.Vector) (api.Rational, api.Errno) {
	sum, multiple, e := units(normals)
	if e != api.OK {
		return "", e
	}
	most := multiple.Mul(whole.From(len(normals)))
	spread := whole.Ratio(sum.Dot(sum), most.Mul(most))
	return numbers.Result(spread, spread)
}
