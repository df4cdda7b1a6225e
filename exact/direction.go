package exact

import (
	"klippe/api"
	"klippe/whole"
)

// Direction has the numbers of a vector, times a number greater than 0.
type Direction [3]whole.Int

// Along returns the direction of a vector, in integers without a common divisor.
func Along(v api.Vector) Direction {
	parts, _ := whole.Primitive(v.X, v.Y, v.Z)
	return Direction(parts)
}

// Text returns a direction as it is written: the primitive vector.
func (d Direction) Text() api.Vector {
	text := func(i int) api.Rational { return api.Rational(d[i].Text()) }
	v, _ := Primitive(api.Vector{X: text(0), Y: text(1), Z: text(2)})
	return v
}

// IsZero reports whether a direction is that of the vector of zeros, which has none.
func (d Direction) IsZero() bool {
	return d[0].Sign() == 0 && d[1].Sign() == 0 && d[2].Sign() == 0
}

// Plus returns the sum.
func (d Direction) Plus(other Direction) Direction {
	return Direction{d[0].Add(other[0]), d[1].Add(other[1]), d[2].Add(other[2])}
}

// Times returns the multiple.
func (d Direction) Times(k whole.Int) Direction {
	return Direction{d[0].Mul(k), d[1].Mul(k), d[2].Mul(k)}
}

// Dot returns the dot product.
func (d Direction) Dot(other Direction) whole.Int {
	return d[0].Mul(other[0]).Add(d[1].Mul(other[1])).Add(d[2].Mul(other[2]))
}

// Cross returns the cross product.
func (d Direction) Cross(other Direction) Direction { return cross(d, other) }
