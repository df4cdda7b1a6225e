package polyline

import (
	"klippe/api"
	"klippe/exact"
)

// segment joins two points of a chain.
type segment struct {
	ends [2]api.Point
	at   [2]exact.Point
	line exact.Line
	box  exact.Box
}

// segments returns those of a list of points.
func segments(r exact.Ranks, c []api.Point) []segment {
	l := make([]segment, len(c)-1)
	for i := range l {
		l[i] = between(r, c[i], c[i+1])
	}
	return l
}

// between returns the segment from a point to another one.
func between(r exact.Ranks, from, to api.Point) segment {
	a, b := exact.At(from), exact.At(to)
	return segment{[2]api.Point{from, to}, [2]exact.Point{a, b}, exact.Through(a, b), r.Box(from, to)}
}

// meetings hands the indices of the segments of a list that meet s to visit, with the place that both have in common (if they overlap, there are more), until it returns false. It reports whether it never did.
func (s segment) meetings(l []segment, visit func(i int, at api.Point, overlap bool) bool) bool {
	for i, t := range l {
		if !s.box.Meets(t.box) {
			continue
		}
		if at, overlap, found := s.meet(t); found && !visit(i, at, overlap) {
			return false
		}
	}
	return true
}

// meet returns the place that two segments whose boxes meet have in common, if there is one; or whether they overlap.
func (s segment) meet(t segment) (at api.Point, overlap, found bool) {
	a, b := s.line.Side(t.at[0]), s.line.Side(t.at[1])
	if a == 0 && b == 0 {
		at, overlap = s.meetAlong(t)
		return at, overlap, true
	}
	c, d := t.line.Side(s.at[0]), t.line.Side(s.at[1])
	switch {
	case a*b > 0 || c*d > 0:
		return api.Point{}, false, false
	case a == 0:
		return t.ends[0], false, true
	case b == 0:
		return t.ends[1], false, true
	case c == 0:
		return s.ends[0], false, true
	case d == 0:
		return s.ends[1], false, true
	}
	return s.line.Meet(t.line).Text(), false, true
}

// meetAlong is meet for two segments of one line. As their boxes meet, they overlap, unless one of them begins where the other one ends.
func (s segment) meetAlong(t segment) (at api.Point, overlap bool) {
	first, last := s.inOrder()
	low, high := t.inOrder()
	switch {
	case last == low:
		return last, false
	case first == high:
		return first, false
	}
	return api.Point{}, true
}

// inOrder returns both ends in their order.
func (s segment) inOrder() (first, last api.Point) {
	if s.line.IsUp() {
		return s.ends[0], s.ends[1]
	}
	return s.ends[1], s.ends[0]
}
