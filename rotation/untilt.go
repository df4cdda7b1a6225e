package rotation

import (
	"cmp"

	"klippe/api"
	"klippe/exact"
	"klippe/numbers"
	"klippe/rational"
	"klippe/vector"
	"klippe/whole"
)

// along returns the primitive quaternion that is a positive multiple of four numbers, of which the first one is greater than 0.
func along(w, x, y, z api.Rational) ([4]int, api.Errno) {
	parts, _ := whole.Primitive(w, x, y, z)
	var t [4]int
	for i, part := range parts {
		n, is := part.Small()
		if !is {
			return [4]int{}, api.ErrLimit
		}
		t[i] = n
	}
	return result(t)
}

// Around returns the rotation about an axis whose angle has, for an axis of the length 1, k as the tangent of its half.
func Around(axis api.Vector, k api.Rational) ([4]int, api.Errno) {
	if e := cmp.Or(vector.Check(axis), rational.Check(k)); e != api.OK {
		return [4]int{}, e
	}
	v := exact.Times(k, axis)
	return along("1", v.X, v.Y, v.Z)
}

// length returns the length of a vector, which can be of any length as a text, or ErrRoot if it is not rational.
func length(v api.Vector) (api.Rational, api.Errno) {
	root, is := rational.Root(exact.Dot(v, v))
	if !is {
		return "", api.ErrRoot
	}
	return root, api.OK
}

// Length returns the length of a vector, if it is rational.
func Length(v api.Vector) (api.Rational, api.Errno) {
	if e := vector.Check(v); e != api.OK {
		return "", e
	}
	l, e := length(v)
	if e != api.OK {
		return "", e
	}
	return numbers.Result(l, l)
}

// Untilt returns the rotation about a horizontal axis that takes a normal upward by the least angle.
func Untilt(normal api.Vector) ([4]int, api.Errno) {
	isZero, e := vector.IsZero(normal)
	switch {
	case e != api.OK:
		return [4]int{}, e
	case isZero:
		return [4]int{}, api.ErrZero
	}
	// A length that is too long for a result can still lead to small parts.
	l, e := length(normal)
	if e != api.OK {
		return [4]int{}, e
	}
	w := rational.Add(l, normal.Z)
	if w == "0" {
		// The normal points straight downward.
		return [4]int{0, 1, 0, 0}, api.OK
	}
	return along(w, normal.Y, rational.Neg(normal.X), "0")
}
