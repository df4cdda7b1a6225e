package polyline

import (
	"slices"

	"klippe/api"
	"klippe/exact"
)

// joiner puts chains together. It has the indices of those that end at each place, and which ones are used.
type joiner struct {
	chains [][]api.Point
	ends   map[api.Point][]int
	used   []bool
}

// Join joins chains at the places at which exactly two of their ends meet.
func Join(l [][]api.Point) ([][]api.Point, api.Errno) {
	j := joiner{l, map[api.Point][]int{}, make([]bool, len(l))}
	for i, c := range l {
		if e := Check(c); e != api.OK {
			return nil, e
		}
		for _, end := range []api.Point{c[0], c[len(c)-1]} {
			j.ends[end] = append(j.ends[end], i)
		}
	}
	var joined [][]api.Point
	for i, c := range l {
		if j.used[i] {
			continue
		}
		j.used[i] = true
		whole := j.extend(slices.Clone(c))
		slices.Reverse(whole)
		joined = append(joined, j.turned(j.extend(whole)))
	}
	slices.SortFunc(joined, compare)
	return joined, api.OK
}

// extend puts chains behind the last point, as long as exactly one other end meets it.
func (j *joiner) extend(c []api.Point) []api.Point {
	for {
		last := c[len(c)-1]
		ends := j.ends[last]
		// If both ends are used, they are those of the chain: it is closed.
		next := slices.IndexFunc(ends, func(i int) bool { return !j.used[i] })
		if len(ends) != 2 || next < 0 {
			return c
		}
		j.used[ends[next]] = true
		more := slices.Clone(j.chains[ends[next]])
		if more[0] != last {
			slices.Reverse(more)
		}
		c = append(c, more[1:]...)
	}
}

// turned returns a joined chain as results are written.
func (j *joiner) turned(c []api.Point) []api.Point {
	first, last := c[0], c[len(c)-1]
	if first == last && len(j.ends[first]) == 2 {
		return leastAround(c[:len(c)-1])
	}
	return lesser(c, backward(c))
}

// leastAround returns a ring, closed, from its least point on. If that comes more than once, it is the least of these lists.
func leastAround(ring []api.Point) []api.Point {
	start := slices.MinFunc(ring, exact.OrderPoints)
	var least []api.Point
	for i, p := range ring {
		if p != start {
			continue
		}
		around := slices.Concat(ring[i:], ring[:i+1])
		around = lesser(around, backward(around))
		if least == nil {
			least = around
		}
		least = lesser(least, around)
	}
	return least
}

// compare orders lists of points lexicographically.
func compare(a, b []api.Point) int { return slices.CompareFunc(a, b, exact.OrderPoints) }

func lesser(a, b []api.Point) []api.Point {
	if compare(b, a) < 0 {
		return b
	}
	return a
}

func backward(c []api.Point) []api.Point {
	back := slices.Clone(c)
	slices.Reverse(back)
	return back
}
