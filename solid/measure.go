package solid

import (
	"cmp"
	"iter"

	"klippe/affine"
	"klippe/api"
	"klippe/exact"
	"klippe/numbers"
	"klippe/rational"
	"klippe/vector"
)

// Side tells whether a place lies inside of a solid (-1), on its surface (0) or outside (1).
func Side(s Solid, p api.Vector) (int, api.Errno) {
	b, e := read(s)
	if e := cmp.Or(e, vector.Check(p)); e != api.OK {
		return 0, e
	}
	switch on, isOut := touched(b.planes, p); {
	case isOut:
		return 1, api.OK
	case on != 0:
		return 0, api.OK
	}
	return -1, api.OK
}

// Inner returns a place inside: the mean of the vertices.
func Inner(s Solid) (api.Vector, api.Errno) {
	if e := Check(s); e != api.OK {
		return api.Vector{}, e
	}
	sum := s.Vertices[0]
	for _, v := range s.Vertices[1:] {
		sum = exact.Plus(sum, v)
	}
	share, _ := rational.Of(1, len(s.Vertices))
	return right(exact.Times(share, sum))
}

// right returns a vector, or ErrLimit if a number of it is too long.
func right(v api.Vector) (api.Vector, api.Errno) { return numbers.Result(v, v.X, v.Y, v.Z) }

// Bounds returns the least box.
func Bounds(s Solid) (low, high api.Vector, e api.Errno) {
	if e := Check(s); e != api.OK {
		return api.Vector{}, api.Vector{}, e
	}
	low, high = s.Vertices[0], s.Vertices[0]
	for _, v := range s.Vertices {
		low = api.Vector{X: rational.Min(low.X, v.X), Y: rational.Min(low.Y, v.Y), Z: rational.Min(low.Z, v.Z)}
		high = api.Vector{X: rational.Max(high.X, v.X), Y: rational.Max(high.Y, v.Y), Z: rational.Max(high.Z, v.Z)}
	}
	return low, high, api.OK
}

// tetrahedra goes through the triangles that the faces are divided into, as seen from the first vertex, with the sums of their corners, and six times the volumes of the tetrahedra below them.
func tetrahedra(s Solid) iter.Seq2[api.Vector, api.Rational] {
	return func(yield func(api.Vector, api.Rational) bool) {
		seen := make([]api.Vector, len(s.Vertices))
		for i, v := range s.Vertices {
			seen[i] = exact.Minus(v, s.Vertices[0])
		}
		for _, around := range s.Faces {
			// A face with the first vertex has nothing below it; there this is the least one.
			if around[0] == 0 {
				continue
			}
			a := seen[around[0]]
			for k := 2; k < len(around); k++ {
				b, c := seen[around[k-1]], seen[around[k]]
				if !yield(exact.Plus(exact.Plus(a, b), c), exact.Dot(a, exact.Cross(b, c))) {
					return
				}
			}
		}
	}
}

// Volume returns the volume.
func Volume(s Solid) (api.Rational, api.Errno) {
	if e := Check(s); e != api.OK {
		return "", e
	}
	sum := api.Rational("0")
	for _, volume := range tetrahedra(s) {
		sum = rational.Add(sum, volume)
	}
	volume := rational.Mul("1/6", sum)
	return numbers.Result(volume, volume)
}

// Centroid returns the centre of gravity.
func Centroid(s Solid) (api.Vector, api.Errno) {
	if e := Check(s); e != api.OK {
		return api.Vector{}, e
	}
	sum, weighted := api.Rational("0"), vector.Of(0, 0, 0)
	for corners, volume := range tetrahedra(s) {
		sum, weighted = rational.Add(sum, volume), exact.Plus(weighted, exact.Times(volume, corners))
	}
	// The centre of a tetrahedron is a quarter of the sum of its corners.
	share, _ := rational.Div("1/4", sum)
	return right(exact.Plus(s.Vertices[0], exact.Times(share, weighted)))
}

// Move returns the solid under an affine map.
func Move(s Solid, a api.Affine) (Solid, api.Errno) {
	b, e := read(s)
	if e := cmp.Or(e, affine.Check(a)); e != api.OK {
		return Solid{}, e
	}
	// Normals are taken to other ones by the rows' cross products, which point inward if the map turns solids round.
	rows := [3]api.Vector{exact.Cross(a.Rows[1], a.Rows[2]), exact.Cross(a.Rows[2], a.Rows[0]), exact.Cross(a.Rows[0], a.Rows[1])}
	sign := rational.Whole(rational.Sign(exact.Dot(a.Rows[0], rows[0])))
	if sign == "0" {
		return Solid{}, api.ErrDependent
	}
	moved := body{make([]plane, len(b.planes)), make([]corner, len(b.corners))}
	for i, c := range b.corners {
		moved.corners[i] = corner{exact.Plus(products(a.Rows, c.at), a.Shift), c.on}
	}
	for i, p := range b.planes {
		normal := exact.Times(sign, products(rows, p.Normal))
		moved.planes[i] = canonical(outward(normal, moved.corners[s.Faces[i][0]].at))
	}
	return moved.solid()
}

// products returns the dot products of rows and a vector.
func products(rows [3]api.Vector, v api.Vector) api.Vector {
	return api.Vector{X: exact.Dot(rows[0], v), Y: exact.Dot(rows[1], v), Z: exact.Dot(rows[2], v)}
}
