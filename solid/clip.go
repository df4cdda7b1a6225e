package solid

import (
	"cmp"
	"slices"

	"klippe/api"
	"klippe/exact"
	"klippe/vector"
	"klippe/whole"
)

// Clip returns the part of a solid that is not on the outer side of a plane, if it has an interior.
func Clip(s Solid, p api.Plane) (part Solid, some bool, e api.Errno) {
	b, e := read(s)
	if e := cmp.Or(e, vector.CheckPlane(p)); e != api.OK {
		return Solid{}, false, e
	}
	parts, e := b.clip(s, p)
	if e != api.OK || len(parts) == 0 {
		return Solid{}, false, e
	}
	return parts[0], true, api.OK
}

// Split returns the parts of a solid on both sides of a plane, none or one each.
func Split(s Solid, p api.Plane) (inner, outer []Solid, e api.Errno) {
	b, e := read(s)
	if e := cmp.Or(e, vector.CheckPlane(p)); e != api.OK {
		return nil, nil, e
	}
	inner, e = b.clip(s, p)
	outer, e2 := b.clip(s, exact.Opposite(p))
	if e := cmp.Or(e, e2); e != api.OK {
		return nil, nil, e
	}
	return inner, outer, api.OK
}

// clip returns the part of the body of a solid that is not on the outer side of a plane, or none.
func (b body) clip(s Solid, p api.Plane) ([]Solid, api.Errno) {
	cut := canonical(p)
	ends := make([]end, len(b.corners))
	var isIn, isOut bool
	for i, c := range b.corners {
		at := exact.In(c.at)
		ends[i] = end{c, at, cut.flat.Height(at)}
		isIn, isOut = isIn || ends[i].height.Sign() < 0, isOut || ends[i].height.Sign() > 0
	}
	switch {
	case !isIn:
		return nil, api.OK
	case !isOut:
		return []Solid{clone(s)}, api.OK
	}
	bit := uint64(1) << len(b.planes)
	part, e := body{slices.Concat(b.planes, []plane{cut}), slices.Concat(kept(ends, bit), crossings(s, ends, bit))}.solid()
	if e != api.OK {
		return nil, e
	}
	return []Solid{part}, api.OK
}

// end is a corner with its height above a plane.
type end struct {
	corner
	place  exact.Place
	height whole.Int
}

// kept returns the corners that are not on the outer side; those on the plane have its bit.
func kept(ends []end, bit uint64) []corner {
	var l []corner
	for _, c := range ends {
		switch c.height.Sign() {
		case 0:
			l = append(l, corner{c.at, c.on | bit})
		case -1:
			l = append(l, c.corner)
		}
	}
	return l
}

// crossings returns the places where the plane cuts edges. Each edge is in two faces, once in each direction.
func crossings(s Solid, ends []end, bit uint64) []corner {
	var l []corner
	for _, around := range s.Faces {
		for k, i := range around {
			a, b := ends[i], ends[around[(k+1)%len(around)]]
			if a.height.Sign() < 0 && b.height.Sign() > 0 {
				at := a.place.Combine(b.height, b.place, a.height.Neg())
				l = append(l, corner{at.Text(), a.on&b.on | bit})
			}
		}
	}
	return l
}

func clone(s Solid) Solid {
	s.Planes, s.Vertices, s.Faces = slices.Clone(s.Planes), slices.Clone(s.Vertices), slices.Clone(s.Faces)
	for i, around := range s.Faces {
		s.Faces[i] = slices.Clone(around)
	}
	return s
}
