package solid

import (
	"cmp"
	"iter"
	"slices"

	"klippe/api"
	"klippe/exact"
	"klippe/rational"
	"klippe/whole"
)

// plane is a plane with a primitive normal; its numbers are also there as integers.
type plane struct {
	api.Plane
	flat exact.Plane
}

// canonical returns the plane with a primitive normal.
func canonical(p api.Plane) plane {
	n, factor := exact.Primitive(p.Normal)
	p = api.Plane{Normal: n, Offset: rational.Mul(p.Offset, factor)}
	return plane{p, exact.Flat(p)}
}

// distinct returns planes in the order of their normals; of those with the same one it keeps the innermost one.
func distinct(planes []api.Plane) []plane {
	l := make([]plane, len(planes))
	for i, p := range planes {
		l[i] = canonical(p)
	}
	slices.SortFunc(l, func(p, q plane) int {
		return cmp.Or(exact.Order(p.Normal, q.Normal), rational.Compare(p.Offset, q.Offset))
	})
	return slices.CompactFunc(l, func(p, q plane) bool { return p.Normal == q.Normal })
}

// line is what two planes have in common.
type line struct{ from, along exact.Place }

// lines goes through the lines that two planes have in common.
func lines(planes []plane) iter.Seq[line] {
	return func(yield func(line) bool) {
		for i, p := range planes {
			for _, q := range planes[:i] {
				from, along, found := p.flat.Line(q.flat)
				if found && !yield(line{from, along}) {
					return
				}
			}
		}
	}
}

// escapes reports whether a direction leads outward through no plane. If one does, and the normals are not all perpendicular to one direction, then one does along a line that two planes have in common.
func escapes(planes []plane) bool {
	some := false
	for l := range lines(planes) {
		var outward, inward bool
		for _, p := range planes {
			side := p.flat.Side(l.along)
			outward, inward = outward || side > 0, inward || side < 0
		}
		if !outward || !inward {
			return true
		}
		some = true
	}
	return !some
}

// spot is a place with the bits of all planes that are there.
type spot struct {
	at exact.Place
	on uint64
}

// corners goes through the places where three planes meet, if they are on no plane's outer side. It finds a corner once for each of the lines of two planes through it.
func corners(planes []plane) iter.Seq[spot] {
	return func(yield func(spot) bool) {
		for l := range lines(planes) {
			for _, end := range l.ends(planes) {
				if !yield(end) {
					return
				}
			}
		}
	}
}

// reach is how far a line leads in one of its directions, as a fraction, before it comes to the outer side of the planes with some bits.
type reach struct {
	num, den whole.Int
	on       uint64
}

// limit lets a line lead no farther than to a plane.
func (r *reach) limit(num, den whole.Int, bit uint64) {
	order := -1
	if r.on != 0 {
		order = whole.Compare(num.Mul(r.den), r.num.Mul(den))
	}
	switch {
	case order < 0:
		*r = reach{num, den, bit}
	case order == 0:
		r.on |= bit
	}
}

// ends returns the ends of the part of a line that is on no plane's outer side: none, one, or two.
func (l line) ends(planes []plane) []spot {
	var back, forth reach
	var along uint64
	for k, p := range planes {
		bit, height, growth := uint64(1)<<k, p.flat.Height(l.from), p.flat.Height(l.along)
		switch growth.Sign() {
		case 1:
			forth.limit(height.Neg(), growth, bit)
		case -1:
			back.limit(height.Neg(), growth.Neg(), bit)
		default:
			if height.Sign() > 0 {
				return nil
			}
			if height.Sign() == 0 {
				along |= bit
			}
		}
	}
	back.num = back.num.Neg()
	switch whole.Compare(back.num.Mul(forth.den), forth.num.Mul(back.den)) {
	case 1:
		return nil
	case 0:
		return []spot{{l.at(back), along | back.on | forth.on}}
	}
	return []spot{{l.at(back), along | back.on}, {l.at(forth), along | forth.on}}
}

// at returns the place that is a fraction of the direction away.
func (l line) at(r reach) exact.Place { return l.from.Combine(r.den, l.along, r.num) }

// places returns each of some corners once, as it is written.
func places(found iter.Seq[spot]) []corner {
	seen := map[uint64]bool{}
	var l []corner
	for c := range found {
		// Three planes meet in one place alone, so their bits tell corners apart.
		if !seen[c.on] {
			seen[c.on] = true
			l = append(l, corner{c.at.Text(), c.on})
		}
	}
	return l
}
