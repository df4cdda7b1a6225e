package fitting

import (
	"cmp"

	"klippe/api"
	"klippe/exact"
	"klippe/lineation"
	"klippe/numbers"
)

// Off returns the misfit of an axis and a plane: the squared sine of their angle, which is the squared cosine of that of the axis and the normal.
func Off(axis, normal api.Vector) (api.Rational, api.Errno) { return lineation.Angle(axis, normal) }

// Total returns the sum of the misfits of an axis and several planes.
func Total(axis api.Vector, normals []api.Vector) (api.Rational, api.Errno) {
	if e := cmp.Or(lineation.Check(axis), checkList(normals, lineation.Check)); e != api.OK {
		return "", e
	}
	total := newMisfits(directions(normals)).total(exact.Along(axis))
	return numbers.Result(total, total)
}

// line is the line in which the planes of two normals meet.
type line struct {
	i, j  int
	along exact.Direction
}

// meet hands the lines of all pairs of planes that are not parallel, in the order of the pairs, to a function, as long as it returns true.
func meet(normals []exact.Direction, do func(l line) bool) {
	for i, m := range normals {
		for j := i + 1; j < len(normals); j++ {
			along := m.Cross(normals[j])
			if !along.IsZero() && !do(line{i, j, along}) {
				return
			}
		}
	}
}

// Axis returns the best axis of the planes, and its total.
func Axis(normals []api.Vector) (axis api.Vector, total api.Rational, e api.Errno) {
	if e := checkList(normals, lineation.Check); e != api.OK {
		return api.Vector{}, "", e
	}
	planes := directions(normals)
	m := newMisfits(planes)
	var best line
	meet(planes, func(l line) bool {
		if best.along.IsZero() || m.compare(l.along, best.along) < 0 {
			best = l
		}
		return true
	})
	if best.along.IsZero() {
		return api.Vector{}, "", api.ErrDependent
	}
	total = m.total(best.along)
	if axis, e = lineation.Intersect(normals[best.i], normals[best.j]); e != api.OK {
		return api.Vector{}, "", e
	}
	if total, e = numbers.Result(total, total); e != api.OK {
		return api.Vector{}, "", e
	}
	return axis, total, api.OK
}

// Cylindrical returns the axis that all planes contain, if there is exactly one.
func Cylindrical(normals []api.Vector) (axis api.Vector, is bool, e api.Errno) {
	if e := checkList(normals, lineation.Check); e != api.OK {
		return api.Vector{}, false, e
	}
	planes := directions(normals)
	var first line
	meet(planes, func(l line) bool {
		first = l
		return false
	})
	if first.along.IsZero() {
		return api.Vector{}, false, api.OK
	}
	for _, n := range planes {
		if n.Dot(first.along).Sign() != 0 {
			return api.Vector{}, false, api.OK
		}
	}
	axis, e = lineation.Intersect(normals[first.i], normals[first.j])
	return axis, e == api.OK, e
}
