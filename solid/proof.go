package solid

import (
	"cmp"
	"math/bits"
	"slices"

	"klippe/api"
	"klippe/exact"
	"klippe/vector"
)

// Check returns the error of a solid.
func Check(s Solid) api.Errno {
	_, e := read(s)
	return e
}

// read returns the body of a solid, or its error. Of is asked only where the fields do not prove themselves.
func read(s Solid) (body, api.Errno) {
	if b, proven := prove(s); proven {
		return b, api.OK
	}
	_, e := Of(s.Planes)
	return body{}, cmp.Or(e, api.ErrForm)
}

// prove returns the body of a solid whose fields are those of what Of returns. They are, if each face is bounded by other ones: then it is all that its plane has in common with the solid of the planes.
func prove(s Solid) (body, bool) {
	planes, areRight := readPlanes(s.Planes)
	if !areRight || !areRising(s.Vertices) || len(s.Faces) != len(planes) {
		return body{}, false
	}
	b := body{planes: planes}
	for _, v := range s.Vertices {
		on, isOut := touched(planes, v)
		if isOut || on == 0 {
			return body{}, false
		}
		b.corners = append(b.corners, corner{v, on})
	}
	for i, around := range s.Faces {
		if !b.isFace(i, around) {
			return body{}, false
		}
	}
	return b, len(planes) > 0
}

// readPlanes returns right planes, if their normals are primitive, and in order.
func readPlanes(l []api.Plane) ([]plane, bool) {
	if len(l) > MaxPlanes {
		return nil, false
	}
	var planes []plane
	for i, p := range l {
		if vector.CheckPlane(p) != api.OK || i > 0 && exact.Order(l[i-1].Normal, p.Normal) >= 0 {
			return nil, false
		}
		planes = append(planes, canonical(p))
		if planes[i].Plane != p {
			return nil, false
		}
	}
	return planes, true
}

// areRising reports whether vectors are right, and in increasing order.
func areRising(l []api.Vector) bool {
	for i, v := range l {
		if vector.Check(v) != api.OK || i > 0 && exact.Order(l[i-1], v) >= 0 {
			return false
		}
	}
	return true
}

// touched returns the bits of the planes that a place is on, and whether it is on a plane's outer side.
func touched(planes []plane, v api.Vector) (on uint64, isOut bool) {
	at := exact.In(v)
	for i, p := range planes {
		side := p.flat.Side(at)
		if side > 0 {
			return 0, true
		}
		if side == 0 {
			on |= 1 << i
		}
	}
	return on, false
}

// isFace reports whether a list has the corners on a plane, the least one first, such that each side is on one other plane, toward whose inner side it turns.
func (b body) isFace(i int, around []int) bool {
	if len(around) < 3 || !b.isAll(i, around) || slices.Min(around) != around[0] {
		return false
	}
	for k, from := range around {
		if !b.isSide(i, from, around[(k+1)%len(around)], around) {
			return false
		}
	}
	return true
}

// isAll reports whether a list has each corner on a plane once, and nothing else.
func (b body) isAll(i int, around []int) bool {
	listed := make([]bool, len(b.corners))
	for _, j := range around {
		if j < 0 || j >= len(listed) || listed[j] || b.corners[j].on&(1<<i) == 0 {
			return false
		}
		listed[j] = true
	}
	for j, c := range b.corners {
		if !listed[j] && c.on&(1<<i) != 0 {
			return false
		}
	}
	return true
}

// isSide reports whether two corners of a face are on one other plane, without a third one, and follow one another as seen from outside. As both are in order, their indices tell the sign of the direction.
func (b body) isSide(i, from, to int, around []int) bool {
	other := b.corners[from].on & b.corners[to].on &^ (1 << i)
	if bits.OnesCount64(other) != 1 {
		return false
	}
	for _, j := range around {
		if j != from && j != to && b.corners[j].on&other != 0 {
			return false
		}
	}
	along := b.planes[i].flat.Cross(b.planes[bits.TrailingZeros64(other)].flat)
	return along.Order() == cmp.Compare(to, from)
}
