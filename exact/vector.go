package exact

import (
	"cmp"

	"klippe/api"
	"klippe/rational"
	"klippe/whole"
)

// Plus returns the sum of two vectors.
func Plus(a, b api.Vector) api.Vector { return each(a, b, rational.Add) }

// Minus returns the difference of two vectors.
func Minus(a, b api.Vector) api.Vector { return each(a, b, rational.Sub) }

// Times returns the multiple of a vector.
func Times(k api.Rational, a api.Vector) api.Vector {
	return each(a, api.Vector{X: k, Y: k, Z: k}, rational.Mul)
}

// each does an operation with each pair of the numbers of two vectors.
func each(a, b api.Vector, operation func(x, y api.Rational) api.Rational) api.Vector {
	return api.Vector{X: operation(a.X, b.X), Y: operation(a.Y, b.Y), Z: operation(a.Z, b.Z)}
}

// Dot returns the dot product of two vectors.
func Dot(a, b api.Vector) api.Rational {
	return rational.Sum(rational.Mul(a.X, b.X), rational.Mul(a.Y, b.Y), rational.Mul(a.Z, b.Z))
}

// Rise returns the squares of the level and of the upright part of a vector. The squared tangent of the plunge of a line is the second one, divided by the first one, and that of the dip of a plane the first one of its normal, divided by the second one.
func Rise(v api.Vector) (level, upright api.Rational) {
	return rational.Add(rational.Mul(v.X, v.X), rational.Mul(v.Y, v.Y)), rational.Mul(v.Z, v.Z)
}

// Cross returns the cross product of two vectors.
func Cross(a, b api.Vector) api.Vector {
	return api.Vector{X: Determinant(a.Y, a.Z, b.Y, b.Z), Y: Determinant(a.Z, a.X, b.Z, b.X), Z: Determinant(a.X, a.Y, b.X, b.Y)}
}

// Determinant returns a times d less b times c.
func Determinant(a, b, c, d api.Rational) api.Rational {
	return rational.Sub(rational.Mul(a, d), rational.Mul(b, c))
}

// Primitive returns the positive multiple of a vector that has integers without a common divisor, and its factor. That of zeros has the factor 1.
func Primitive(a api.Vector) (multiple api.Vector, factor api.Rational) {
	n, factor := whole.Primitive(a.X, a.Y, a.Z)
	text := func(i int) api.Rational { return api.Rational(n[i].Text()) }
	return api.Vector{X: text(0), Y: text(1), Z: text(2)}, factor
}

// Order compares two vectors by X, then by Y, then by Z.
func Order(a, b api.Vector) int {
	return cmp.Or(rational.Compare(a.X, b.X), rational.Compare(a.Y, b.Y), rational.Compare(a.Z, b.Z))
}

// Opposite returns the plane whose sides are exchanged.
func Opposite(p api.Plane) api.Plane {
	return api.Plane{Normal: Times("-1", p.Normal), Offset: rational.Neg(p.Offset)}
}
