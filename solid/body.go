package solid

import (
	"slices"

	"klippe/api"
	"klippe/exact"
	"klippe/numbers"
	"klippe/rational"
)

// corner is a corner of a body, with the bits of all planes that are there.
type corner struct {
	at api.Vector
	on uint64
}

// body is a convex solid before it has faces: some of its planes may have none.
type body struct {
	planes  []plane
	corners []corner
}

// isFlat reports whether the corners are all on one plane. If no place lies inside of planes, a sum of multiples of them says so, and these planes contain all places on none's outer side.
func (b body) isFlat() bool {
	common := ^uint64(0)
	for _, c := range b.corners {
		common &= c.on
	}
	return common != 0
}

// solid returns the data of a body, or ErrLimit if it has too many faces, or a number that is too long.
func (b body) solid() (Solid, api.Errno) {
	slices.SortFunc(b.corners, func(c, d corner) int { return exact.Order(c.at, d.at) })
	faces := b.faces()
	if len(faces) > MaxPlanes {
		return Solid{}, api.ErrLimit
	}
	var s Solid
	var contained []api.Rational
	for _, c := range b.corners {
		s.Vertices = append(s.Vertices, c.at)
		contained = append(contained, c.at.X, c.at.Y, c.at.Z)
	}
	for _, f := range faces {
		s.Planes, s.Faces = append(s.Planes, f.plane), append(s.Faces, f.around)
		contained = append(contained, f.plane.Normal.X, f.plane.Normal.Y, f.plane.Normal.Z, f.plane.Offset)
	}
	return numbers.Result(s, contained...)
}

// face is a plane, and the corners on it in their order around it.
type face struct {
	plane  api.Plane
	around []int
}

// faces returns the faces in the order of their normals. Three corners of a convex solid are never on one line, so a plane has a face if it has three corners.
func (b body) faces() []face {
	var l []face
	for i, p := range b.planes {
		var around []int
		for j, c := range b.corners {
			if c.on&(1<<i) != 0 {
				around = append(around, j)
			}
		}
		if len(around) > 2 {
			b.order(around, p.Normal)
			l = append(l, face{p.Plane, around})
		}
	}
	slices.SortFunc(l, func(f, g face) int { return exact.Order(f.plane.Normal, g.plane.Normal) })
	return l
}

// order sorts the corners of a face, but for the first one, by their directions from it: counterclockwise as seen from outside.
func (b body) order(around []int, normal api.Vector) {
	seen, side := view(normal)
	points := make(map[int]exact.Point, len(around))
	for _, j := range around {
		points[j] = exact.At(seen(b.corners[j].at))
	}
	from := points[around[0]]
	slices.SortFunc(around[1:], func(j, k int) int { return -side * exact.Turn(from, points[j], points[k]) })
}

// view returns a projection along an axis that keeps planes with a normal flat, and 1 if it shows their outer side, otherwise -1.
func view(normal api.Vector) (seen func(api.Vector) api.Point, side int) {
	switch {
	case normal.X != "0":
		return func(v api.Vector) api.Point { return api.Point{X: v.Y, Y: v.Z} }, rational.Sign(normal.X)
	case normal.Y != "0":
		return func(v api.Vector) api.Point { return api.Point{X: v.Z, Y: v.X} }, rational.Sign(normal.Y)
	}
	return func(v api.Vector) api.Point { return api.Point{X: v.X, Y: v.Y} }, rational.Sign(normal.Z)
}
