package mesh

import (
	"cmp"
	"slices"

	"klippe/api"
	"klippe/exact"
	"klippe/numbers"
	"klippe/polygon"
	"klippe/rational"
	"klippe/vector"
	"klippe/whole"
)

// Contains reports whether a place lies in the sheet.
func Contains(m api.Mesh, p api.Point) (bool, api.Errno) {
	s, e := read(m)
	if e := cmp.Or(e, vector.CheckPoint(p)); e != api.OK {
		return false, e
	}
	at := exact.At(p)
	isOutside := func(l exact.Line) bool { return l.Side(at) < 0 }
	return !slices.ContainsFunc(s.lines, isOutside), api.OK
}

// Locate returns all triangles in which a place lies.
func Locate(m api.Mesh, p api.Point) ([]int, api.Errno) {
	s, e := read(m)
	if e := cmp.Or(e, vector.CheckPoint(p)); e != api.OK {
		return nil, e
	}
	at := exact.At(p)
	var l []int
	for i, t := range m.Triangles {
		if s.isIn(t, at) {
			l = append(l, i)
		}
	}
	return l, api.OK
}

// isIn reports whether a place lies in a triangle.
func (s *sheet) isIn(t api.Triangle, at exact.Point) bool {
	for l := range sides(t) {
		if s.line(l).Side(at) < 0 {
			return false
		}
	}
	return true
}

// Shares returns the weights of a triangle for a place.
func Shares(m api.Mesh, triangle int, p api.Point) (Weights, api.Errno) {
	s, e := readTriangle(m, triangle)
	if e := cmp.Or(e, vector.CheckPoint(p)); e != api.OK {
		return Weights{}, e
	}
	var corners [3]exact.Point
	for k, i := range m.Triangles[triangle] {
		corners[k] = s.points[i]
	}
	var w Weights
	parts, sum := exact.Weights(corners, exact.At(p))
	for k, part := range parts {
		w[k] = whole.Ratio(part, sum)
	}
	return numbers.Result(w, w[:]...)
}

// Along returns the spans of a segment in the triangles.
func Along(m api.Mesh, a, b api.Point) ([]Span, api.Errno) {
	s, e := read(m)
	if e := cmp.Or(e, vector.CheckPoint(a), vector.CheckPoint(b)); e != api.OK {
		return nil, e
	}
	if a == b {
		return nil, api.ErrZero
	}
	var l []Span
	for _, i := range s.pierced(exact.Through(exact.At(a), exact.At(b))) {
		t := m.Triangles[i]
		corners := exact.FromLeast([]api.Point{m.Points[t[0]], m.Points[t[1]], m.Points[t[2]]})
		from, to, found, e := polygon.Chord(corners, a, b)
		if e != api.OK {
			return nil, e
		}
		if found {
			l = append(l, Span{i, from, to})
		}
	}
	slices.SortStableFunc(l, func(x, y Span) int { return rational.Compare(x.From, y.From) })
	// Two triangles that have a part in common have it along an edge, so it is the same one.
	return slices.CompactFunc(l, func(x, y Span) bool { return x.From == y.From }), api.OK
}

// pierced returns the triangles that have more than one point on a line.
func (s *sheet) pierced(line exact.Line) []int {
	where := make([]int, len(s.points))
	for i, p := range s.points {
		where[i] = line.Side(p)
	}
	var l []int
	for i, t := range s.triangles {
		a, b, c := where[t[0]], where[t[1]], where[t[2]]
		isAcross := min(a, b, c) < 0 && max(a, b, c) > 0
		if isAcross || a*a+b*b+c*c == 1 {
			l = append(l, i)
		}
	}
	return l
}
