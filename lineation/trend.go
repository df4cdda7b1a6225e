package lineation

import (
	"cmp"
	"slices"

	"klippe/api"
	"klippe/exact"
	"klippe/rational"
	"klippe/vector"
)

// bearing returns a positive multiple of the bearing of a direction that is not vertical.
func bearing(v api.Vector) api.Point {
	down := downward(v)
	return api.Point{X: down.X, Y: down.Y}
}

// clockwise compares two bearings from the north on: those of the eastern half with the north come first.
func clockwise(a, b api.Point) int {
	if order := cmp.Compare(half(a), half(b)); order != 0 {
		return order
	}
	// Within a half turn, what comes behind is on the right side.
	return rational.Sign(exact.Determinant(a.X, a.Y, b.X, b.Y))
}

// half returns 0 for bearings from north (with it) to south (without it), otherwise 1.
func half(a api.Point) int {
	if cmp.Or(rational.Sign(a.X), rational.Sign(a.Y)) > 0 {
		return 0
	}
	return 1
}

// Trend returns the octant of the bearing.
func Trend(v api.Vector) (octant int, e api.Errno) {
	if e := Check(v); e != api.OK {
		return 0, e
	}
	if isVertical(v) {
		return 0, api.ErrNone
	}
	// North, east, south and west are the even octants, in their order.
	even := []api.Point{vector.At(0, 1), vector.At(1, 0), vector.At(0, -1), vector.At(-1, 0)}
	i, found := slices.BinarySearchFunc(even, bearing(v), clockwise)
	if found {
		return 2 * i, api.OK
	}
	return 2*i - 1, api.OK
}

// CompareTrend compares two bearings.
func CompareTrend(u, v api.Vector) (int, api.Errno) {
	if e := cmp.Or(Check(u), Check(v)); e != api.OK {
		return 0, e
	}
	if isVertical(u) || isVertical(v) {
		return 0, api.ErrNone
	}
	return clockwise(bearing(u), bearing(v)), api.OK
}
