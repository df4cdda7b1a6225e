package mesh

import (
	"klippe/api"
	"klippe/exact"
)

// hasCrossing reports whether two triangles of a mesh cross.
func (s *sheet) hasCrossing(m api.Mesh) bool {
	ranks := exact.Rank(m.Points)
	boxes := make([]exact.Box, len(m.Triangles))
	for i, t := range m.Triangles {
		boxes[i] = ranks.Box(m.Points[t[0]], m.Points[t[1]], m.Points[t[2]])
		for j, before := range m.Triangles[:i] {
			if boxes[i].Meets(boxes[j]) && s.cross(before, t) {
				return true
			}
		}
	}
	return false
}

// cross reports whether two triangles have something else in common than nothing, a corner of both, or a whole side of both. If no inner place is in both, there is a side of one of them that has the other one on its right.
func (s *sheet) cross(a, b api.Triangle) bool {
	for _, pair := range [2][2]api.Triangle{{a, b}, {b, a}} {
		for l := range sides(pair[0]) {
			if on, isBeyond := s.beyond(l, pair[1]); isBeyond {
				return s.isPartly(l, on)
			}
		}
	}
	return true
}

// beyond reports whether no corner of a triangle is to the left of a side, and returns those on its line.
func (s *sheet) beyond(l side, t api.Triangle) (on []int, is bool) {
	line := s.line(l)
	for _, i := range t {
		switch line.Side(s.points[i]) {
		case 1:
			return nil, false
		case 0:
			on = append(on, i)
		}
	}
	return on, true
}

// isPartly reports whether what is on the line of a side, a point or another side, has only a part in common with it.
func (s *sheet) isPartly(l side, on []int) bool {
	for _, i := range on {
		if s.isWithin(l, i) {
			return true
		}
	}
	return len(on) == 2 && (s.isWithin(side(on), l[0]) || s.isWithin(side(on), l[1]))
}

// isWithin reports whether a point on the line of a side is on the side, but none of its ends.
func (s *sheet) isWithin(l side, i int) bool {
	return exact.Compare(s.points[l[0]], s.points[i])*exact.Compare(s.points[i], s.points[l[1]]) > 0
}
