package delaunay

import (
	"klippe/api"
	"klippe/exact"
	"klippe/whole"
)

// lift returns, for each point, the place above it at the height of the sum of the squares of its coordinates. The places above the points of a circle are on one plane, and those above the points inside of it are below that plane.
func lift(points []api.Point) []exact.Place {
	l := make([]exact.Place, len(points))
	for i, p := range points {
		at := exact.At(p)
		x, y, w := at[0], at[1], at[2]
		l[i] = exact.Place{x.Mul(w), y.Mul(w), x.Mul(x).Add(y.Mul(y)), w.Mul(w)}
	}
	return l
}

// around returns the plane of the circle of three lifted points, with its normal downward: its sides are 1 for points inside, 0 for those on the circle, and -1 outside. It is found unless the points are on one line.
func around(a, b, c exact.Place) (round exact.Plane, found bool) {
	round = exact.Spanned(a, b, c)
	if round[2].Sign() > 0 {
		for i, x := range round {
			round[i] = x.Neg()
		}
	}
	return round, round[2].Sign() < 0
}

// centre returns the centre of the circle with a plane: the place where both partial derivatives of the height above the plane are 0.
func centre(round exact.Plane) api.Point {
	doubled := round[2].Mul(whole.From(-2))
	return api.Point{X: whole.Ratio(round[0], doubled), Y: whole.Ratio(round[1], doubled)}
}
