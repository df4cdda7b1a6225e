package exact

import (
	"slices"

	"klippe/api"
	"klippe/rational"
)

// Ranks tells where the coordinates of some points stand among those of all of them, in increasing order. So boxes are compared as ints, however long the numbers are.
type Ranks struct{ x, y map[api.Rational]int }

// Rank returns the ranks of all coordinates of some lists of points.
func Rank(lists ...[]api.Point) Ranks {
	var x, y []api.Rational
	for _, l := range lists {
		for _, p := range l {
			x, y = append(x, p.X), append(y, p.Y)
		}
	}
	return Ranks{ranked(x), ranked(y)}
}

// ranked returns the ranks of numbers, which are reordered.
func ranked(l []api.Rational) map[api.Rational]int {
	slices.SortFunc(l, rational.Compare)
	ranks := make(map[api.Rational]int, len(l))
	for i, x := range slices.Compact(l) {
		ranks[x] = i
	}
	return ranks
}

// Box is the least box around some points, with its sides, by the ranks of its coordinates.
type Box struct{ west, east, south, north int }

// Box returns the box around some points, of which there is at least one; all of them have ranks.
func (r Ranks) Box(l ...api.Point) Box {
	b := Box{len(r.x), -1, len(r.y), -1}
	for _, p := range l {
		x, y := r.x[p.X], r.y[p.Y]
		b = Box{min(b.west, x), max(b.east, x), min(b.south, y), max(b.north, y)}
	}
	return b
}

// Meets reports whether two boxes have a place in common.
func (b Box) Meets(c Box) bool {
	return b.west <= c.east && c.west <= b.east && b.south <= c.north && c.south <= b.north
}
