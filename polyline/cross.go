package polyline

import (
	"cmp"
	"iter"
	"slices"

	"klippe/api"
	"klippe/exact"
	"klippe/numbers"
)

// Crossing is a place at which the segment I of a chain meets the segment J of another one.
type Crossing struct {
	I, J int
	At   api.Point
}

// Crossings returns where the segments of two chains meet.
func Crossings(a, b []api.Point) ([]Crossing, api.Errno) {
	l, e := crossings(a, b)
	if e != api.OK {
		return nil, e
	}
	var contained []api.Rational
	for _, c := range l {
		contained = append(contained, c.At.X, c.At.Y)
	}
	return numbers.Result(l, contained...)
}

// crossings returns the places, with numbers of any length, or the first error of both chains.
func crossings(a, b []api.Point) ([]Crossing, api.Errno) {
	if e := cmp.Or(Check(a), Check(b)); e != api.OK {
		return nil, e
	}
	ranks := exact.Rank(a, b)
	others := segments(ranks, b)
	var l []Crossing
	for i, s := range segments(ranks, a) {
		isRight := s.meetings(others, func(j int, at api.Point, overlap bool) bool {
			l = append(l, Crossing{i, j, at})
			return !overlap
		})
		if !isRight {
			return nil, api.ErrForm
		}
	}
	return l, api.OK
}

// Split returns the parts of a chain between its places on another one.
func Split(a, b []api.Point) ([][]api.Point, api.Errno) {
	l, e := crossings(a, b)
	if e != api.OK {
		return nil, e
	}
	cuts := make([][]api.Point, len(a)-1)
	for _, c := range l {
		cuts[c.I] = append(cuts[c.I], c.At)
	}
	var parts [][]api.Point
	var contained []api.Rational
	for part := range divide(a, cuts) {
		parts = append(parts, part)
		for _, p := range part {
			contained = append(contained, p.X, p.Y)
		}
	}
	return numbers.Result(parts, contained...)
}

// divide goes through the parts of a chain between the places at which each segment is cut.
func divide(a []api.Point, cuts [][]api.Point) iter.Seq[[]api.Point] {
	return func(yield func([]api.Point) bool) {
		part := []api.Point{a[0]}
		for i, to := range a[1:] {
			along := exact.OrderPoints(a[i], to)
			slices.SortFunc(cuts[i], func(p, q api.Point) int { return along * exact.OrderPoints(q, p) })
			for _, at := range cuts[i] {
				// A place at a point of a chain comes once more for each segment that has it.
				if len(part) == 1 && part[0] == at {
					continue
				}
				if !yield(slices.Concat(part, []api.Point{at})) {
					return
				}
				part = []api.Point{at}
			}
			if part[len(part)-1] != to {
				part = append(part, to)
			}
		}
		if len(part) > 1 {
			yield(part)
		}
	}
}
