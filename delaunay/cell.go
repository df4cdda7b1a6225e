package delaunay

import (
	"slices"

	"klippe/api"
	"klippe/exact"
)

// edge goes from a point to another one.
type edge = [2]int

func turned(e edge) edge { return edge{e[1], e[0]} }

// spots are points that are not all on one line: on the map, and lifted.
type spots struct {
	flat []exact.Point
	high []exact.Place
}

// cells returns the cells of points by the lists of their corners, each one as text. It goes from cell to cell over their sides, and begins with the first point and the one that is nearest to it: the circle about both has no other point, so they are the ends of a side.
func cells(points []api.Point) map[string][]int {
	s := spots{high: lift(points)}
	for _, p := range points {
		s.flat = append(s.flat, exact.At(p))
	}
	first := edge{0, 1 + nearest(points[1:], points[0])}
	found := map[string][]int{}
	for open := []edge{first, turned(first)}; len(open) > 0; {
		last := len(open) - 1
		corners := s.leftOf(open[last])
		open = open[:last]
		name := text(corners)
		if _, known := found[name]; known || len(corners) == 0 {
			continue
		}
		found[name] = corners
		for k, i := range corners {
			open = append(open, edge{corners[(k+1)%len(corners)], i})
		}
	}
	return found
}

// text writes a list of indices, each of which is less than MaxPoints.
func text(l []int) string {
	var b []byte
	for _, i := range l {
		b = append(b, byte(i))
	}
	return string(b)
}

// leftOf returns the corners of the cell on the left of a side, counterclockwise from the least one on; there are none if no point is on the left.
func (s spots) leftOf(e edge) []int {
	line := exact.Through(s.flat[e[0]], s.flat[e[1]])
	var round exact.Plane
	found := false
	for i, p := range s.high {
		// A circle through both ends and a point inside of another one has less of the left side within it.
		if line.Side(s.flat[i]) > 0 && (!found || round.Side(p) > 0) {
			round, found = around(s.high[e[0]], s.high[e[1]], p)
		}
	}
	if !found {
		return nil
	}
	var corners []int
	for i, p := range s.high {
		if round.Side(p) == 0 {
			corners = append(corners, i)
		}
	}
	s.sort(corners)
	return corners
}

// sort puts the corners of a cell in their order: the least one first, and the others by the turns as seen from there.
func (s spots) sort(corners []int) {
	for k, i := range corners {
		if exact.Compare(s.flat[i], s.flat[corners[0]]) < 0 {
			corners[0], corners[k] = i, corners[0]
		}
	}
	least := s.flat[corners[0]]
	slices.SortFunc(corners[1:], func(i, j int) int { return -exact.Turn(least, s.flat[i], s.flat[j]) })
}
