package polygon

import (
	"cmp"

	"klippe/api"
	"klippe/exact"
	"klippe/numbers"
	"klippe/rational"
	"klippe/vector"
	"klippe/whole"
)

// clip returns the sides of the part of a polygon that is on one side of a line; kept is greater than 0 for the points on that side, and 0 for those on the line. There are none if the part has no interior.
func clip(l []side, cut exact.Line, kept func(exact.Point) int) []side {
	type end struct {
		side
		kept int
	}
	ends, some := make([]end, len(l)), false
	for i, s := range l {
		ends[i] = end{s, kept(s.from)}
		some = some || ends[i].kept > 0
	}
	if !some {
		return nil
	}
	part := make([]side, 0, len(l)+1)
	for a, b := range around(ends) {
		switch {
		case a.kept == 0 && b.kept < 0:
			part = append(part, side{a.from, cut})
		case a.kept >= 0:
			part = append(part, a.side)
		}
		// The lines of the sides are those that were given, so the numbers do not grow from one part to the next.
		switch {
		case a.kept > 0 && b.kept < 0:
			part = append(part, side{a.line.Meet(cut), cut})
		case a.kept < 0 && b.kept > 0:
			part = append(part, side{a.line.Meet(cut), a.line})
		}
	}
	return part
}

// corners returns the corners of a part as a polygon; it is empty without sides.
func corners(part []side) ([]api.Point, api.Errno) {
	if len(part) == 0 {
		return nil, api.OK
	}
	l := make([]exact.Point, len(part))
	for i, s := range part {
		l[i] = s.from
	}
	return result(l)
}

// readCut returns the sides of a polygon and a line, or the first error of both.
func readCut(p []api.Point, l vector.Line) ([]side, exact.Line, api.Errno) {
	all, e := read(p)
	if e := cmp.Or(e, numbers.Check(l.A, l.B, l.C)); e != api.OK {
		return nil, exact.Line{}, e
	}
	if l.A == "0" && l.B == "0" {
		return nil, exact.Line{}, api.ErrZero
	}
	return all, exact.Of(l.A, l.B, l.C), api.OK
}

// Clip returns the part of a polygon on the left side of a line.
func Clip(p []api.Point, l vector.Line) (part []api.Point, found bool, e api.Errno) {
	all, cut, e := readCut(p, l)
	if e != api.OK {
		return nil, false, e
	}
	part, e = corners(clip(all, cut, cut.Side))
	return part, len(part) > 0, e
}

// Split returns the parts of a polygon on both sides of a line.
func Split(p []api.Point, l vector.Line) (left, right []api.Point, e api.Errno) {
	all, cut, e := readCut(p, l)
	if e != api.OK {
		return nil, nil, e
	}
	left, e = corners(clip(all, cut, cut.Side))
	right, e2 := corners(clip(all, cut, func(at exact.Point) int { return -cut.Side(at) }))
	if e := cmp.Or(e, e2); e != api.OK {
		return nil, nil, e
	}
	return left, right, api.OK
}

// Intersect returns what two polygons have in common.
func Intersect(p, q []api.Point) (part []api.Point, found bool, e api.Errno) {
	common, e1 := read(p)
	others, e2 := read(q)
	if e := cmp.Or(e1, e2); e != api.OK {
		return nil, false, e
	}
	for _, s := range others {
		common = clip(common, s.line, s.line.Side)
	}
	part, e = corners(common)
	return part, len(part) > 0, e
}

// Chord returns the shares between which the points of a segment are in a polygon.
func Chord(p []api.Point, a, b api.Point) (from, to api.Rational, found bool, e api.Errno) {
	l, e := read(p)
	if e := cmp.Or(e, vector.CheckPoint(a), vector.CheckPoint(b)); e != api.OK {
		return "", "", false, e
	}
	if a == b {
		return "", "", false, api.ErrZero
	}
	from, to = chord(l, a, b)
	if rational.Compare(from, to) >= 0 {
		return "", "", false, api.OK
	}
	ends, e := numbers.Result([2]api.Rational{from, to}, from, to)
	return ends[0], ends[1], e == api.OK, e
}

// chord returns the greatest share from which on, and the least one up to which a segment is on no side's right; all are, if the first one is less.
func chord(l []side, a, b api.Point) (from, to api.Rational) {
	n := whole.Common(a.X, a.Y, b.X, b.Y)
	begin, end := exact.Point{n[0], n[1], n[4]}, exact.Point{n[2], n[3], n[4]}
	from, to = "0", "1"
	for _, s := range l {
		first, last := s.line.Height(begin), s.line.Height(end)
		switch {
		case first.Sign() >= 0 && last.Sign() >= 0:
		case first.Sign() <= 0 && last.Sign() <= 0:
			return "1", "0"
		case first.Sign() < 0:
			from = rational.Max(from, whole.Ratio(first, first.Sub(last)))
		default:
			to = rational.Min(to, whole.Ratio(first, first.Sub(last)))
		}
	}
	return from, to
}

// Map returns a polygon under an affine map of the plane.
func Map(p []api.Point, rows [2]api.Point, shift api.Point) ([]api.Point, api.Errno) {
	if e := cmp.Or(Check(p), checkPoints([]api.Point{rows[0], rows[1], shift})); e != api.OK {
		return nil, e
	}
	determinant := rational.Sub(rational.Mul(rows[0].X, rows[1].Y), rational.Mul(rows[0].Y, rows[1].X))
	if determinant == "0" {
		return nil, api.ErrDependent
	}
	return mapped(p, rows, shift, rational.Sign(determinant) < 0)
}

// mapped returns the polygon of the images of corners, whose order is turned round if the map does so.
func mapped(p []api.Point, rows [2]api.Point, shift api.Point, turned bool) ([]api.Point, api.Errno) {
	images := make([]exact.Point, len(p))
	for i, at := range p {
		to := func(row api.Point, add api.Rational) api.Rational {
			return rational.Sum(rational.Mul(row.X, at.X), rational.Mul(row.Y, at.Y), add)
		}
		image := exact.At(api.Point{X: to(rows[0], shift.X), Y: to(rows[1], shift.Y)})
		if turned {
			i = len(p) - 1 - i
		}
		images[i] = image
	}
	return result(images)
}
