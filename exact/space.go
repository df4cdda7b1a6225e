package exact

import (
	"klippe/api"
	"klippe/rational"
	"klippe/whole"
)

// Place has X, Y and Z times W, and W, which is greater than 0. With 0 in its place it is a direction.
type Place [4]whole.Int

// Plane has the numbers of a Normal and the opposite of an Offset, times an integer greater than 0.
type Plane [4]whole.Int

// In returns a place of space.
func In(v api.Vector) Place { return Place(whole.Common(v.X, v.Y, v.Z)) }

// Flat returns a plane of space.
func Flat(p api.Plane) Plane {
	return Plane(whole.Common(p.Normal.X, p.Normal.Y, p.Normal.Z, rational.Neg(p.Offset)))
}

// Text returns a place as it is written.
func (v Place) Text() api.Vector {
	return api.Vector{X: whole.Ratio(v[0], v[3]), Y: whole.Ratio(v[1], v[3]), Z: whole.Ratio(v[2], v[3])}
}

// Combine returns k times a place (or a direction), plus m times another one.
func (v Place) Combine(k whole.Int, w Place, m whole.Int) Place {
	var sum Place
	for i := range sum {
		sum[i] = v[i].Mul(k).Add(w[i].Mul(m))
	}
	return sum
}

// Spanned returns the plane through three places, to whose normal they turn left. Its normal is zero if they are on one line.
func Spanned(a, b, c Place) Plane {
	var p Plane
	for i := range p {
		without := func(v Place) [3]whole.Int { return [3]whole.Int{v[(i+1)%4], v[(i+2)%4], v[(i+3)%4]} }
		rest := without(a)
		for k, x := range cross(without(b), without(c)) {
			p[i] = p[i].Add(rest[k].Mul(x))
		}
		if i%2 == 1 {
			p[i] = p[i].Neg()
		}
	}
	return p
}

// Height returns a positive multiple of the distance of a place from the plane; it is greater than 0 on the side to which the normal points. Of a direction, it returns how fast this distance grows.
func (p Plane) Height(v Place) whole.Int {
	sum := whole.Int{}
	for i, k := range p {
		sum = sum.Add(k.Mul(v[i]))
	}
	return sum
}

// Side returns 1 for a place on the side to which the normal points, 0 for one on the plane, -1 for one on the other side.
func (p Plane) Side(v Place) int { return p.Height(v).Sign() }

// Cross returns the direction of the line that two planes have in common: the cross product of their normals. It is zero if they are parallel.
func (p Plane) Cross(q Plane) Place {
	c := cross([3]whole.Int(p[:3]), [3]whole.Int(q[:3]))
	return Place{c[0], c[1], c[2]}
}

// Order returns the sign of a direction: that of its first number that is not 0.
func (v Place) Order() int {
	for _, x := range v[:3] {
		if x.Sign() != 0 {
			return x.Sign()
		}
	}
	return 0
}

// Line returns a place of the line that two planes have in common, and its direction; there is none if they are parallel.
func (p Plane) Line(q Plane) (from, along Place, found bool) {
	along = p.Cross(q)
	switch along.Order() {
	case 0:
		return Place{}, Place{}, false
	case -1:
		return q.Line(p)
	}
	i := 0
	for along[i].Sign() == 0 {
		i++
	}
	// With 0 for the number i, two equations have the determinant along[i], which is greater than 0.
	j, k := (i+1)%3, (i+2)%3
	from[j] = p[k].Mul(q[3]).Sub(q[k].Mul(p[3]))
	from[k] = q[j].Mul(p[3]).Sub(p[j].Mul(q[3]))
	from[3] = along[i]
	return from, along, true
}
