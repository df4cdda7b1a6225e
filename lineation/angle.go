package lineation

import (
	"cmp"

	"klippe/api"
	"klippe/exact"
	"klippe/numbers"
	"klippe/rational"
)

// cosine returns the squared cosine of the angle between two lines; it can be of any length.
func cosine(u, v api.Vector) api.Rational {
	dot := exact.Dot(u, v)
	squared, _ := rational.Div(rational.Mul(dot, dot), rational.Mul(exact.Dot(u, u), exact.Dot(v, v)))
	return squared
}

// angle returns the squared cosine of the angle between two lines as a result.
func angle(u, v api.Vector) (api.Rational, api.Errno) {
	squared := cosine(u, v)
	return numbers.Result(squared, squared)
}

// Angle returns the squared cosine of the angle between two lines.
func Angle(u, v api.Vector) (api.Rational, api.Errno) {
	if e := cmp.Or(Check(u), Check(v)); e != api.OK {
		return "", e
	}
	return angle(u, v)
}

// CompareAngles compares the angles between the lines of two pairs.
func CompareAngles(a, b [2]api.Vector) (int, api.Errno) {
	if e := cmp.Or(Check(a[0]), Check(a[1]), Check(b[0]), Check(b[1])); e != api.OK {
		return 0, e
	}
	// The lesser angle has the greater cosine.
	return rational.Compare(cosine(b[0], b[1]), cosine(a[0], a[1])), api.OK
}

// Lies reports whether a line lies in planes with a normal.
func Lies(normal, v api.Vector) (bool, api.Errno) {
	if e := cmp.Or(Check(normal), Check(v)); e != api.OK {
		return false, e
	}
	return lies(normal, v), api.OK
}

func lies(normal, v api.Vector) bool { return exact.Dot(normal, v) == "0" }

// Intersect returns the downward form of the line of two planes.
func Intersect(m, n api.Vector) (api.Vector, api.Errno) {
	same, e := Same(m, n)
	if e != api.OK {
		return api.Vector{}, e
	}
	if same {
		return api.Vector{}, api.ErrDependent
	}
	return form(exact.Cross(m, n))
}

// Pitch returns the squared cosine of the angle between a line in a plane and the strike.
func Pitch(normal, v api.Vector) (squared api.Rational, e api.Errno) {
	if e := cmp.Or(Check(normal), Check(v)); e != api.OK {
		return "", e
	}
	// The plane is horizontal if its normal is vertical.
	if isVertical(normal) {
		return "", api.ErrNone
	}
	if !lies(normal, v) {
		return "", api.ErrForm
	}
	return angle(api.Vector{X: rational.Neg(normal.Y), Y: normal.X, Z: "0"}, v)
}

// Interlimb returns the class of the fold whose limbs have two normals.
func Interlimb(m, n api.Vector) (class int, e api.Errno) {
	if e := cmp.Or(Check(m), Check(n)); e != api.OK {
		return 0, e
	}
	squared := cosine(m, n)
	// The squared cosines of 60 and 30 degrees are 1/4 and 3/4.
	switch sign := rational.Sign(exact.Dot(m, n)); {
	case sign > 0 && rational.Compare(squared, "1/4") > 0:
		return Gentle, api.OK
	case sign > 0:
		return Open, api.OK
	case rational.Compare(squared, "1/4") < 0:
		return Close, api.OK
	case rational.Compare(squared, "3/4") < 0:
		return Tight, api.OK
	}
	return Isoclinal, api.OK
}
