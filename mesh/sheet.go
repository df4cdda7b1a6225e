package mesh

import (
	"iter"
	"maps"
	"slices"

	"klippe/api"
	"klippe/exact"
	"klippe/vector"
)

// side goes from a point of a mesh to another one.
type side [2]int

func (s side) turned() side { return side{s[1], s[0]} }

// sides goes through the sides of a triangle.
func sides(t api.Triangle) iter.Seq[side] {
	return func(yield func(side) bool) {
		for k := range 3 {
			if !yield(side{t[k], t[(k+1)%3]}) {
				return
			}
		}
	}
}

// sheet is a right mesh: its points in integers, the triangle with each side, the points of the border, and the line from each of these to the next one.
type sheet struct {
	points    []exact.Point
	triangles []api.Triangle
	with      map[side]int
	border    []int
	lines     []exact.Line
}

// read returns the sheet of a mesh, or its error.
func read(m api.Mesh) (sheet, api.Errno) {
	switch {
	case len(m.Triangles) == 0:
		return sheet{}, api.ErrEmpty
	case len(m.Points) > api.MaxPoints || len(m.Triangles) > api.MaxTriangles:
		return sheet{}, api.ErrLimit
	}
	if e := checkPoints(m.Points); e != api.OK {
		return sheet{}, e
	}
	s := sheet{triangles: m.Triangles}
	for _, p := range m.Points {
		s.points = append(s.points, exact.At(p))
	}
	if e := s.checkTriangles(); e != api.OK {
		return sheet{}, e
	}
	switch {
	case s.findSides() && s.findBorder() && s.isConvex():
		return s, api.OK
	case s.hasCrossing(m):
		return sheet{}, api.ErrCross
	}
	return sheet{}, api.ErrOpen
}

func checkPoints(l []api.Point) api.Errno {
	seen := make(map[api.Point]bool, len(l))
	for _, p := range l {
		if e := vector.CheckPoint(p); e != api.OK {
			return e
		}
		if seen[p] {
			return api.ErrDuplicate
		}
		seen[p] = true
	}
	return api.OK
}

func (s *sheet) checkTriangles() api.Errno {
	for _, t := range s.triangles {
		if min(t[0], t[1], t[2]) < 0 || max(t[0], t[1], t[2]) >= len(s.points) {
			return api.ErrUnknown
		}
		if !s.isLeft(t) {
			return api.ErrForm
		}
	}
	return api.OK
}

// isLeft reports whether the points of a triangle turn left.
func (s *sheet) isLeft(t api.Triangle) bool {
	return exact.Turn(s.points[t[0]], s.points[t[1]], s.points[t[2]]) > 0
}

// line returns the line of a side.
func (s *sheet) line(l side) exact.Line { return exact.Through(s.points[l[0]], s.points[l[1]]) }

// findSides finds the triangle with each side, and reports whether there is only one, and each point is a corner.
func (s *sheet) findSides() bool {
	s.with = make(map[side]int, 3*len(s.triangles))
	isCorner := make([]bool, len(s.points))
	for i, t := range s.triangles {
		for l := range sides(t) {
			if _, found := s.with[l]; found {
				return false
			}
			s.with[l] = i
			isCorner[l[0]] = true
		}
	}
	return !slices.Contains(isCorner, false)
}

// findBorder finds the points around the sheet, and reports whether the sides without a triangle beyond them are one cycle.
func (s *sheet) findBorder() bool {
	next := map[int]int{}
	for l := range s.with {
		if _, found := s.with[l.turned()]; found {
			continue
		}
		if _, found := next[l[0]]; found {
			return false
		}
		next[l[0]] = l[1]
	}
	if len(next) == 0 {
		return false
	}
	// At each point as many of these sides end as begin, so they lead back to the first one.
	first := slices.Min(slices.Collect(maps.Keys(next)))
	s.border = []int{first}
	for i := next[first]; i != first && len(s.border) < len(next); i = next[i] {
		s.border = append(s.border, i)
	}
	return len(s.border) == len(next)
}

// isConvex reports whether the border never turns right, and goes around once. Then the triangles are the sheet: each place is within as many of them as the border goes around it. No corner lies within a side, as what is near it would be in two triangles.
func (s *sheet) isConvex() bool {
	for k, i := range s.border {
		s.lines = append(s.lines, s.line(side{i, s.border[(k+1)%len(s.border)]}))
	}
	tops, before := 0, s.lines[len(s.lines)-1]
	for _, l := range s.lines {
		turn := before.Turn(l)
		if turn < 0 || turn == 0 && before.IsUp() != l.IsUp() {
			return false
		}
		if before.IsUp() && !l.IsUp() {
			tops++
		}
		before = l
	}
	return tops == 1
}

// corners returns the points at which the border turns.
func (s *sheet) corners() []int {
	var l []int
	before := s.lines[len(s.lines)-1]
	for k, i := range s.border {
		if before.Turn(s.lines[k]) > 0 {
			l = append(l, i)
		}
		before = s.lines[k]
	}
	return l
}

// beside yields the triangles with an edge, first the one that has it in its direction, with their third points.
func (s *sheet) beside(edge side) iter.Seq2[int, int] {
	return func(yield func(int, int) bool) {
		for _, l := range [2]side{edge, edge.turned()} {
			i, found := s.with[l]
			if !found {
				continue
			}
			t := s.triangles[i]
			if !yield(i, t[0]+t[1]+t[2]-l[0]-l[1]) {
				return
			}
		}
	}
}
