package delaunay

import (
	"maps"
	"slices"

	"klippe/api"
	"klippe/exact"
)

// net is a mesh whose edges are flipped: its points, and the third point of the triangle on the left of each side.
type net struct {
	points []exact.Place
	third  map[edge]int
}

// read returns the net of a right mesh.
func read(m api.Mesh) net {
	n := net{lift(m.Points), make(map[edge]int, 3*len(m.Triangles))}
	for _, t := range m.Triangles {
		n.add(t[0], t[1], t[2])
	}
	return n
}

// add adds the sides of a triangle.
func (n net) add(i, j, k int) {
	n.third[edge{i, j}], n.third[edge{j, k}], n.third[edge{k, i}] = k, i, j
}

// isBad reports whether an edge is bad.
func (n net) isBad(e edge) bool {
	left, isLeft := n.third[e]
	right, isRight := n.third[turned(e)]
	if !isLeft || !isRight {
		return false
	}
	round, _ := around(n.points[e[0]], n.points[e[1]], n.points[left])
	return round.Side(n.points[right]) > 0
}

// bad returns the bad edges.
func (n net) bad() map[edge]bool {
	l := map[edge]bool{}
	for e := range n.third {
		if e[0] < e[1] && n.isBad(e) {
			l[e] = true
		}
	}
	return l
}

// flip replaces an edge with two triangles by the other diagonal, and returns the sides of both triangles.
func (n net) flip(e edge) [4]edge {
	left, right := n.third[e], n.third[turned(e)]
	delete(n.third, e)
	delete(n.third, turned(e))
	n.add(e[0], right, left)
	n.add(right, e[1], left)
	return [4]edge{ordered(e[0], right), ordered(right, e[1]), ordered(e[1], left), ordered(left, e[0])}
}

// ordered returns the edge of two points.
func ordered(i, j int) edge { return edge{min(i, j), max(i, j)} }

// compare orders edges lexicographically.
func compare(e, f edge) int { return slices.Compare(e[:], f[:]) }

// improve flips the least bad edge until there is none, and returns the edges that were flipped.
func (n net) improve() []edge {
	var flips []edge
	for bad := n.bad(); len(bad) > 0; {
		worst := slices.MinFunc(slices.Collect(maps.Keys(bad)), compare)
		flips = append(flips, worst)
		delete(bad, worst)
		// The new edge is not bad. The circles at the sides around it grow beyond these, so sides that are bad stay so.
		for _, e := range n.flip(worst) {
			if n.isBad(e) {
				bad[e] = true
			}
		}
	}
	return flips
}

// triangles returns the triangles in normal order.
func (n net) triangles() []api.Triangle {
	var l []api.Triangle
	for e, k := range n.third {
		if e[0] < min(e[1], k) {
			l = append(l, api.Triangle{e[0], e[1], k})
		}
	}
	sortTriangles(l)
	return l
}

// Bad returns the edges that are to be flipped.
func Bad(m api.Mesh) ([][2]int, api.Errno) {
	if e := checkMesh(m); e != api.OK {
		return nil, e
	}
	return slices.SortedFunc(maps.Keys(read(m).bad()), compare), api.OK
}

// Improve returns the mesh after all flips, and the edges that were flipped.
func Improve(m api.Mesh) (better api.Mesh, flips [][2]int, e api.Errno) {
	if e := checkMesh(m); e != api.OK {
		return api.Mesh{}, nil, e
	}
	n := read(m)
	flips = n.improve()
	return api.Mesh{Points: slices.Clone(m.Points), Triangles: n.triangles()}, flips, api.OK
}
