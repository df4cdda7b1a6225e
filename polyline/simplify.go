package polyline

import (
	"cmp"
	"slices"

	"klippe/api"
	"klippe/exact"
	"klippe/rational"
	"klippe/whole"
)

// area is a doubled area: a quotient by an integer greater than 0, which is compared again and again, but never written.
type area struct{ num, den whole.Int }

func (a area) compare(b area) int { return whole.Compare(a.num.Mul(b.den), b.num.Mul(a.den)) }

// shape is a chain that is simplified: its segments, and the area of the triangle at each point between two of them.
type shape struct {
	ranks    exact.Ranks
	segments []segment
	areas    []area
}

// Simplify leaves out points whose triangles with their neighbours have at most some doubled area.
func Simplify(c []api.Point, most api.Rational) ([]api.Point, api.Errno) {
	l, e := read(c)
	if e := cmp.Or(e, rational.Check(most)); e != api.OK {
		return nil, e
	}
	if rational.Sign(most) < 0 {
		return nil, api.ErrRange
	}
	s := shape{exact.Rank(c), l, make([]area, len(l)-1)}
	for k := range s.areas {
		s.measure(k)
	}
	num, den := rational.Parts(most)
	bound := area{whole.Of(num), whole.Of(den)}
	for k, found := s.choose(bound); found; k, found = s.choose(bound) {
		s.leaveOut(k)
	}
	rest := []api.Point{c[0]}
	for _, t := range s.segments {
		rest = append(rest, t.ends[1])
	}
	return rest, api.OK
}

// measure finds the area at the point behind a segment.
func (s *shape) measure(k int) {
	a, b := s.segments[k], s.segments[k+1]
	s.areas[k] = area{a.line.Height(b.at[1]).Abs(), a.at[0][2].Mul(a.at[1][2]).Mul(b.at[1][2])}
}

// choose returns the first point of those with the least area that can be left out.
func (s *shape) choose(bound area) (least int, found bool) {
	for k, a := range s.areas {
		if a.compare(bound) > 0 || found && a.compare(s.areas[least]) >= 0 {
			continue
		}
		if s.isFree(k) {
			least, found = k, true
		}
	}
	return least, found
}

// joined returns the segment that takes the place of two.
func (s *shape) joined(k int) segment {
	return between(s.ranks, s.segments[k].ends[0], s.segments[k+1].ends[1])
}

// isFree reports whether the list is a chain without the point behind a segment.
func (s *shape) isFree(k int) bool {
	// A point on the line between its neighbours changes nothing.
	if s.areas[k].num.Sign() == 0 {
		return true
	}
	return s.joined(k).meetings(s.segments, func(i int, _ api.Point, overlap bool) bool {
		switch i {
		case k, k + 1:
			return true
		case k - 1, k + 2:
			return !overlap
		}
		return false
	})
}

// leaveOut leaves out the point behind a segment.
func (s *shape) leaveOut(k int) {
	s.segments = slices.Replace(s.segments, k, k+2, s.joined(k))
	s.areas = slices.Delete(s.areas, k, k+1)
	for i := max(0, k-1); i <= min(k, len(s.areas)-1); i++ {
		s.measure(i)
	}
}
