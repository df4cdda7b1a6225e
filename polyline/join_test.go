package polyline_test

import (
	"math/rand"
	"slices"
	"testing"

	"klippe/api"
	"klippe/polyline"
)

func TestJoin(t *testing.T) {
	for _, c := range []struct{ l, want [][]api.Point }{
		{nil, nil}, {lists("0 0 1 0"), lists("0 0 1 0")}, {lists("1 0 0 0"), lists("0 0 1 0")}, {lists("0 1 0 0 1 1"), lists("0 1 0 0 1 1")}, {lists("1 1 0 0 0 1"), lists("0 1 0 0 1 1")},
		// Two chains in all directions, and three.
		{lists("0 0 1 0", "1 0 2 1"), lists("0 0 1 0 2 1")}, {lists("1 0 0 0", "1 0 2 1"), lists("0 0 1 0 2 1")}, {lists("0 0 1 0", "2 1 1 0"), lists("0 0 1 0 2 1")}, {lists("2 1 1 0", "1 0 0 0"), lists("0 0 1 0 2 1")}, {lists("3 3 2 1", "0 0 1 5 1 0", "2 1 1 0"), lists("0 0 1 5 1 0 2 1 3 3")},
		// At a place with three ends, or with a chain that goes on, nothing is joined.
		{lists("0 0 1 0", "1 0 2 1", "1 0 2 -1"), lists("0 0 1 0", "1 0 2 -1", "1 0 2 1")}, {lists("0 0 1 0", "1 1 1 0 1 -1"), lists("0 0 1 0", "1 -1 1 0 1 1")}, {lists("0 0 1 0", "1 0 2 0", "1 1 1 0", "1 0 1 -1"), lists("0 0 1 0", "1 -1 1 0", "1 0 1 1", "1 0 2 0")},
		// Closed ones, from the least point on, also if that is no end.
		{lists("1 0 0 0 0 1", "0 1 1 1 1 0"), lists("0 0 0 1 1 1 1 0 0 0")}, {lists("2 0 1 1", "1 1 0 0", "0 0 2 0"), lists("0 0 1 1 2 0 0 0")}, {lists("2 1 1 3 2 3", "2 3 4 4 2 1"), lists("1 3 2 1 4 4 2 3 1 3")}, {lists("3 3 1 1", "1 1 2 0", "2 0 3 3", "7 7 8 8"), lists("1 1 2 0 3 3 1 1", "7 7 8 8")},
		// Closed at a place with further ends: it begins there.
		{lists("2 2 0 0 0 4", "0 4 2 2", "2 2 5 5"), lists("2 2 0 0 0 4 2 2", "2 2 5 5")}, {lists("2 2 0 4", "2 2 0 0 0 4", "5 5 2 2", "2 2 7 0 8 1", "8 1 2 2"), lists("2 2 0 0 0 4 2 2", "2 2 5 5", "2 2 7 0 8 1 2 2")},
		// Two of one kind, and lists that cross: each one is as good as any.
		{lists("0 0 1 0", "0 0 1 0"), lists("0 0 1 0 0 0")}, {lists("0 0 1 0", "1 0 0 0", "0 0 1 0"), lists("0 0 1 0", "0 0 1 0", "0 0 1 0")}, {lists("3 0 0 0 1 1", "1 1 0 0 3 1", "3 1 3 0"), lists("0 0 1 1 0 0 3 0 3 1 0 0")}, {lists("0 0 4 4", "0 4 4 0", "4 4 4 0"), lists("0 0 4 4 4 0 0 4")},
		{lists("1/2 0 1/3 0", "1/3 0 1/4 7"), lists("1/4 7 1/3 0 1/2 0")},
	} {
		before := make([][]api.Point, len(c.l))
		for i, chain := range c.l {
			before[i] = slices.Clone(chain)
		}
		got, e := polyline.Join(c.l)
		if !sameLists(got, c.want) || e != api.OK {
			t.Errorf("Join(%v) = %v, %d", before, got, e)
		}
		for _, chain := range got {
			chain[0].X = "17"
		}
		if !sameLists(c.l, before) {
			t.Errorf("Join(%v) changes it, or shares its memory", before)
		}
		// The order and the directions of a list change nothing.
		for bits := range 1 << len(before) {
			l := slices.Clone(before)
			for i := range l {
				if bits>>i&1 == 1 {
					l[i] = reversed(l[i])
				}
			}
			forward, _ := polyline.Join(l)
			slices.Reverse(l)
			backward, _ := polyline.Join(l)
			if !sameLists(forward, c.want) || !sameLists(backward, c.want) {
				t.Errorf("Join(%v) = %v, and backward %v", l, backward, forward)
			}
		}
	}
}

func TestJoinErrors(t *testing.T) {
	for _, c := range wrong {
		for _, l := range [][][]api.Point{{c.c}, {c.c, points("0 0 0 0")}, {points("0 0 1 1"), c.c, nil}} {
			if got, e := polyline.Join(l); len(got) != 0 || e != c.chain {
				t.Errorf("Join(%v) = %v, %d", l, got, e)
			}
		}
	}
}

// joinOnce joins two ends of a list at a place where no others meet, or turns to false. It tries each chain in both directions.
func joinOnce(l [][]api.Point) ([][]api.Point, bool) {
	count := map[api.Point]int{}
	for _, c := range l {
		count[c[0]]++
		count[c[len(c)-1]]++
	}
	for i, a := range l {
		for j, b := range l {
			if i == j {
				continue
			}
			for _, from := range [][]api.Point{a, reversed(a)} {
				for _, to := range [][]api.Point{b, reversed(b)} {
					if from[len(from)-1] == to[0] && count[to[0]] == 2 {
						rest := [][]api.Point{slices.Concat(from, to[1:])}
						for k, c := range l {
							if k != i && k != j {
								rest = append(rest, c)
							}
						}
						return rest, true
					}
				}
			}
		}
	}
	return l, false
}

// written returns a joined chain as the chapter says it; count tells how many ends of the list are at a place.
func written(c []api.Point, count map[api.Point]int) []api.Point {
	candidates := [][]api.Point{c, reversed(c)}
	if c[0] == c[len(c)-1] && count[c[0]] == 2 {
		candidates = nil
		ring := c[1:]
		least := slices.MinFunc(ring, order)
		for i, p := range ring {
			if p == least {
				around := append(turned(ring, i), p)
				candidates = append(candidates, around, reversed(around))
			}
		}
	}
	return slices.MinFunc(candidates, orderLists)
}

func orderLists(a, b []api.Point) int { return slices.CompareFunc(a, b, order) }

// sides returns the segments of lists, each with its lesser point first, in order.
func sides(l [][]api.Point) [][]api.Point {
	var all [][]api.Point
	for _, c := range l {
		for i, to := range c[1:] {
			s := []api.Point{c[i], to}
			slices.SortFunc(s, order)
			all = append(all, s)
		}
	}
	slices.SortFunc(all, orderLists)
	return all
}

func TestJoinLaws(t *testing.T) {
	r := rand.New(rand.NewSource(5))
	closed := 0
	for range 1500 {
		l := anyChains(r)
		count := map[api.Point]int{}
		for _, c := range l {
			count[c[0]]++
			count[c[len(c)-1]]++
		}
		want, again := l, true
		for again {
			want, again = joinOnce(want)
		}
		want = slices.Clone(want)
		for i, c := range want {
			want[i] = written(c, count)
		}
		slices.SortFunc(want, orderLists)
		got, e := polyline.Join(l)
		if !sameLists(got, want) || e != api.OK || !sameLists(sides(l), sides(got)) {
			t.Fatalf("Join(%v) = %v, %d, not %v", l, got, e, want)
		}
		for _, c := range got {
			first, last := order(c[0], c[len(c)-1]), order(c[1], c[len(c)-2])
			if first > 0 || first == 0 && last > 0 {
				t.Fatalf("Join(%v) = %v", l, got)
			}
			if first == 0 {
				closed++
			}
		}
		r.Shuffle(len(l), func(i, j int) { l[i], l[j] = reversed(l[j]), l[i] })
		if other, _ := polyline.Join(l); !sameLists(got, other) {
			t.Fatalf("Join(%v) = %v, and %v in another order", l, got, other)
		}
	}
	if closed < 200 {
		t.Errorf("only %d lists are closed", closed)
	}
}

// anyChains cuts chains and rings in parts, and puts other chains between some of their points.
func anyChains(r *rand.Rand) [][]api.Point {
	var l [][]api.Point
	for range 1 + r.Intn(2) {
		c := anyChain(r, 5)
		if r.Intn(2) == 0 {
			c = anyRing(r, 5)
			c = append(c, c[0])
		}
		begin := 0
		for i := 1; i < len(c); i++ {
			if r.Intn(2) == 0 || i == len(c)-1 || begin == 0 && i == len(c)-2 && c[0] == c[len(c)-1] {
				l = append(l, slices.Clone(c[begin:i+1]))
				begin = i
			}
		}
		a, b := c[r.Intn(len(c))], c[r.Intn(len(c))]
		if a != b && r.Intn(3) == 0 {
			l = append(l, []api.Point{a, b})
		}
	}
	return l
}

// TestManyChains joins the segments of a long ring.
func TestManyChains(t *testing.T) {
	ring := bow(400)
	var l [][]api.Point
	for i, from := range ring {
		l = append(l, []api.Point{from, ring[(i+1)%len(ring)]})
	}
	rand.New(rand.NewSource(6)).Shuffle(len(l), func(i, j int) { l[i], l[j] = l[j], l[i] })
	want := append(slices.Clone(ring), ring[0])
	if got, e := polyline.Join(l); !sameLists(got, [][]api.Point{want}) || e != api.OK {
		t.Errorf("Join: %d lists, %d", len(got), e)
	}
}
