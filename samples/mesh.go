package samples

import (
	"slices"

	"klippe/api"
	"klippe/rational"
)

// lattice is a triangulation whose points have ints.
type lattice struct {
	points    [][2]int
	triangles []api.Triangle
}

// Mesh makes a right mesh with some points within a convex polygon, or on its border; pick returns any int that is less than its argument, and not negative.
func Mesh(points int, pick func(n int) int) api.Mesh {
	l := outline(pick)
	for range points {
		l.insert([2]int{pick(25), pick(25)})
	}
	for range 3 * len(l.triangles) {
		l.flip(pick(len(l.triangles)), pick(3))
	}
	l.reorder(pick)
	return l.mapped(pick)
}

// outline returns a polygon in triangles that have its first corner.
func outline(pick func(n int) int) *lattice {
	outlines := [][][2]int{
		{{0, 0}, {24, 0}, {0, 24}},
		{{0, 0}, {24, 0}, {24, 24}, {0, 24}},
		{{0, 0}, {24, 6}, {24, 18}, {12, 24}},
		{{6, 0}, {18, 0}, {24, 12}, {18, 24}, {6, 24}, {0, 12}},
	}
	l := &lattice{points: outlines[pick(len(outlines))]}
	for i := 2; i < len(l.points); i++ {
		l.triangles = append(l.triangles, api.Triangle{0, i - 1, i})
	}
	return l
}

// area returns the doubled area of three points.
func (l *lattice) area(i, j, k int) int {
	a, b, c := l.points[i], l.points[j], l.points[k]
	return (b[0]-a[0])*(c[1]-a[1]) - (b[1]-a[1])*(c[0]-a[0])
}

// insert divides the triangles that have a new point; it does nothing if there are none, or the point is there.
func (l *lattice) insert(p [2]int) {
	if slices.Contains(l.points, p) {
		return
	}
	last := len(l.points)
	l.points = append(l.points, p)
	var triangles []api.Triangle
	for _, t := range l.triangles {
		areas := [3]int{l.area(t[0], t[1], last), l.area(t[1], t[2], last), l.area(t[2], t[0], last)}
		if slices.Min(areas[:]) < 0 {
			triangles = append(triangles, t)
			continue
		}
		for k, area := range areas {
			if area > 0 {
				triangles = append(triangles, api.Triangle{t[k], t[(k+1)%3], last})
			}
		}
	}
	if len(triangles) == len(l.triangles) {
		l.points = l.points[:last]
		return
	}
	l.triangles = triangles
}

// flip turns the side k of a triangle, if it can be turned.
func (l *lattice) flip(i, k int) {
	t := l.triangles[i]
	u, v, p := t[k], t[(k+1)%3], t[(k+2)%3]
	for j, other := range l.triangles {
		for m := range 3 {
			if q := other[(m+2)%3]; other[m] == v && other[(m+1)%3] == u && l.area(u, q, p) > 0 && l.area(q, v, p) > 0 {
				l.triangles[i], l.triangles[j] = api.Triangle{u, q, p}, api.Triangle{q, v, p}
				return
			}
		}
	}
}

// reorder puts points and triangles in any order, and lets triangles begin with any of their points.
func (l *lattice) reorder(pick func(n int) int) {
	places := order(len(l.points), pick)
	points := make([][2]int, len(l.points))
	for i, p := range l.points {
		points[places[i]] = p
	}
	l.points = points
	triangles := make([]api.Triangle, len(l.triangles))
	for i, place := range order(len(triangles), pick) {
		t, k := l.triangles[i], pick(3)
		triangles[place] = api.Triangle{places[t[k]], places[t[(k+1)%3]], places[t[(k+2)%3]]}
	}
	l.triangles = triangles
}

// order returns the ints from 0 on in any order.
func order(n int, pick func(n int) int) []int {
	var l []int
	for i := range n {
		l = slices.Insert(l, pick(i+1), i)
	}
	return l
}

// mapped returns the mesh under an affine map that does not turn it round.
func (l *lattice) mapped(pick func(n int) int) api.Mesh {
	skew, east, north, divisor := pick(3)-1, pick(5)-20, pick(5)-3, 1+pick(4)
	m := api.Mesh{Triangles: l.triangles}
	for _, p := range l.points {
		x, _ := rational.Of(p[0]+skew*p[1]+east, divisor)
		y, _ := rational.Of(2*p[1]+skew*p[0]+north, divisor)
		m.Points = append(m.Points, api.Point{X: x, Y: y})
	}
	return m
}
