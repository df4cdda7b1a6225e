package delaunay_test

import (
	"math/rand"
	"slices"
	"testing"

	"klippe/api"
	"klippe/delaunay"
	"klippe/exact"
	"klippe/mesh"
	"klippe/rational"
	"klippe/vector"
)

func isEmpty(m api.Mesh) bool { return len(m.Points) == 0 && len(m.Triangles) == 0 }

// bow has points of which three are never on one line.
func bow(n int) []api.Point {
	var l []api.Point
	for i := range n {
		l = append(l, vector.At(i, i*i))
	}
	return l
}

// lists has lists of points with their errors.
func lists() map[string]struct {
	l []api.Point
	e api.Errno
} {
	type list = struct {
		l []api.Point
		e api.Errno
	}
	many := bow(61)
	wrong := bow(61)
	wrong[60].Y = "01"
	again := bow(61)
	again[60] = again[3]
	return map[string]list{
		"three":               {points("0 0 1 0 0 1"), api.OK},
		"the most":            {bow(60), api.OK},
		"X":                   {points("0 0 1/1 0 0 1"), api.ErrNumber},
		"Y":                   {points("0 0 1 0 0 1 7 2/4"), api.ErrNumber},
		"wrong behind equal":  {points("0 0 0 0 x 1"), api.ErrNumber},
		"many and wrong":      {wrong, api.ErrNumber},
		"many":                {many, api.ErrLimit},
		"many with equal":     {again, api.ErrLimit},
		"many on a line":      {slices.Repeat(points("0 0"), 61), api.ErrLimit},
		"equal":               {points("0 0 1 0 0 1 1 0"), api.ErrDuplicate},
		"the same two":        {points("1 1 1 1"), api.ErrDuplicate},
		"equal on a line":     {points("0 0 1 0 2 0 1 0"), api.ErrDuplicate},
		"nothing":             {nil, api.ErrDependent},
		"one":                 {points("1/2 3"), api.ErrDependent},
		"two":                 {points("1/2 3 1 4"), api.ErrDependent},
		"on a line":           {points("0 0 2 4 1 2"), api.ErrDependent},
		"on an upright line":  {points("1/3 0 1/3 4 1/3 2 1/3 -5"), api.ErrDependent},
		"the last one is off": {points("0 0 2 4 1 2 5 10 3 7"), api.OK},
	}
}

func TestLists(t *testing.T) {
	for name, c := range lists() {
		before := slices.Clone(c.l)
		m, e := delaunay.Of(c.l)
		if e != c.e || e != api.OK && !isEmpty(m) {
			t.Errorf("%s: Of = %v, %d", name, m, e)
		}
		hull, e := delaunay.Hull(c.l)
		if e != c.e || e != api.OK && len(hull) > 0 {
			t.Errorf("%s: Hull = %v, %d", name, hull, e)
		}
		if !slices.Equal(c.l, before) {
			t.Errorf("%s: the points became %v", name, c.l)
		}
	}
	for _, x := range notRight {
		for _, p := range []api.Point{{X: x, Y: "0"}, {X: "0", Y: x}} {
			l := append(points("0 0 1 0"), p)
			if m, e := delaunay.Of(l); e != api.ErrNumber || !isEmpty(m) {
				t.Errorf("Of(%v) = %v, %d", l, m, e)
			}
			if hull, e := delaunay.Hull(l); e != api.ErrNumber || len(hull) > 0 {
				t.Errorf("Hull(%v) = %v, %d", l, hull, e)
			}
		}
	}
}

func TestOf(t *testing.T) {
	for _, c := range []struct {
		points string
		want   []api.Triangle
	}{
		{"0 0 1 0 1 1 0 1", []api.Triangle{{0, 1, 2}, {0, 2, 3}}},
		{"1 1 0 1 0 0 1 0", []api.Triangle{{0, 1, 2}, {0, 2, 3}}},
		{"1 0 1 1 0 1 0 0", []api.Triangle{{0, 1, 3}, {1, 2, 3}}},
		{"0 0 0 1 1 0", []api.Triangle{{0, 2, 1}}},
		{"0 0 4 0 2 1 2 -1", []api.Triangle{{0, 3, 2}, {1, 2, 3}}},
		// Points on the border, at which it does not turn.
		{"0 0 2 0 1 0 0 2", []api.Triangle{{0, 2, 3}, {1, 3, 2}}},
		// A cell with six corners, and one with four: the least corner is in all triangles of its cell.
		{"5 0 3 4 -3 4 -5 0 -3 -4 3 -4", []api.Triangle{{0, 1, 3}, {0, 3, 5}, {1, 2, 3}, {3, 4, 5}}},
		{"0 0 2 0 0 2 2 2 1 1", []api.Triangle{{0, 1, 4}, {0, 4, 2}, {1, 3, 4}, {2, 4, 3}}},
	} {
		l := points(c.points)
		m, e := delaunay.Of(l)
		if e != api.OK || !slices.Equal(m.Points, l) || !slices.Equal(m.Triangles, c.want) {
			t.Errorf("Of(%s) = %v, %d", c.points, m, e)
		}
		m.Points[0] = api.Point{}
		if !slices.Equal(l, points(c.points)) {
			t.Errorf("Of(%s) has the points of the argument", c.points)
		}
	}
}

// cell returns the indices of the points on the circle of three others, unless it has points inside.
func cell(l []api.Point, i, j, k int) (on []int, is bool) {
	for n, p := range l {
		switch where, e := delaunay.InCircle(l[i], l[j], l[k], p); {
		case e != api.OK || where > 0:
			return nil, false
		case where == 0:
			on = append(on, n)
		}
	}
	return on, true
}

// triangulation finds the triangulation of points as the chapter says it, from the circles of all three of them.
func triangulation(l []api.Point) []api.Triangle {
	var all []api.Triangle
	for i := range l {
		for j := range i {
			for k := range j {
				on, is := cell(l, i, j, k)
				// A cell is taken from its first three points.
				if is && on[0] == k && on[1] == j && on[2] == i {
					all = append(all, fan(l, on)...)
				}
			}
		}
	}
	slices.SortFunc(all, compareTriangles)
	return all
}

func compareTriangles(s, t api.Triangle) int { return slices.Compare(s[:], t[:]) }

// fan returns the triangles of a cell: those of its least corner and two others with no other one between them.
func fan(l []api.Point, on []int) []api.Triangle {
	least := slices.MinFunc(on, func(i, j int) int { return exact.OrderPoints(l[i], l[j]) })
	var all []api.Triangle
	for _, i := range on {
		for _, j := range on {
			turn, _ := vector.Turn(l[least], l[i], l[j])
			isBetween := func(k int) bool {
				before, _ := vector.Turn(l[least], l[i], l[k])
				after, _ := vector.Turn(l[least], l[k], l[j])
				return before > 0 && after > 0
			}
			if turn > 0 && !slices.ContainsFunc(on, isBetween) {
				all = append(all, normal(api.Triangle{least, i, j}))
			}
		}
	}
	return all
}

// normal lets a triangle begin with its least index.
func normal(t api.Triangle) api.Triangle {
	for t[0] > min(t[1], t[2]) {
		t = api.Triangle{t[1], t[2], t[0]}
	}
	return t
}

// somewhereRound makes points of one circle, and maybe another one.
func somewhereRound(r *rand.Rand) []api.Point {
	l := points("5 0 4 3 3 4 0 5 -3 4 -4 3 -5 0 -4 -3 -3 -4 0 -5 3 -4 4 -3")
	r.Shuffle(len(l), func(i, j int) { l[i], l[j] = l[j], l[i] })
	other := vector.At(r.Intn(20)-10, 2*r.Intn(9)-7)
	l = l[:3+r.Intn(7)]
	if slices.Contains(l, other) {
		return l
	}
	return append(l, other)
}

func TestOfLaws(t *testing.T) {
	r := rand.New(rand.NewSource(2))
	cells := 0
	for range 600 {
		l := anyPoints(r, 3+r.Intn(8), 4+r.Intn(5))
		if r.Intn(3) == 0 {
			l = somewhereRound(r)
		}
		m, e := delaunay.Of(l)
		if e != api.OK {
			if want := triangulation(l); e != api.ErrDependent || len(want) > 0 {
				t.Fatalf("Of(%v): %d", l, e)
			}
			continue
		}
		if want := triangulation(l); !slices.Equal(m.Triangles, want) || !slices.Equal(m.Points, l) {
			t.Fatalf("Of(%v) = %v, not %v", l, m, want)
		}
		checkOf(t, m)
		for _, c := range m.Triangles {
			if on, _ := cell(l, c[0], c[1], c[2]); len(on) > 4 {
				cells++
			}
		}
	}
	if cells < 100 {
		t.Errorf("%d triangles were in cells with more than four corners", cells)
	}
}

// checkOf checks the chapter's consequences for a triangulation.
func checkOf(t *testing.T, m api.Mesh) {
	t.Helper()
	if e := mesh.Check(m); e != api.OK {
		t.Fatalf("Check(%v) = %d", m, e)
	}
	if is, triangle, point, e := delaunay.Is(m); !is || triangle != 0 || point != 0 || e != api.OK {
		t.Fatalf("Is(%v) = %t, %d, %d, %d", m, is, triangle, point, e)
	}
	if bad, e := delaunay.Bad(m); len(bad) > 0 || e != api.OK {
		t.Fatalf("Bad(%v) = %v, %d", m, bad, e)
	}
	border, _ := mesh.Boundary(m)
	if len(m.Triangles) != 2*len(m.Points)-2-len(border) {
		t.Fatalf("%v has the border %v", m, border)
	}
	for _, c := range m.Triangles {
		center, squared, _ := delaunay.Circle(m.Points[c[0]], m.Points[c[1]], m.Points[c[2]])
		i, e := delaunay.Nearest(m.Points, center)
		if near, _, _ := distance(m.Points[i], center); near != squared || e != api.OK {
			t.Fatalf("%d is nearest to the centre of %v in %v", i, c, m)
		}
	}
}

// distance returns the squared distance of two points, and its parts.
func distance(a, b api.Point) (sum, x, y api.Rational) {
	x, y = rational.Sub(a.X, b.X), rational.Sub(a.Y, b.Y)
	return squared(a, b), rational.Mul(x, x), rational.Mul(y, y)
}

// TestOfOrders compares the triangulations of points in two orders.
func TestOfOrders(t *testing.T) {
	r := rand.New(rand.NewSource(3))
	for range 60 {
		l := anyPoints(r, 20+r.Intn(41), 9+r.Intn(30))
		m, e := delaunay.Of(l)
		if e != api.OK {
			t.Fatalf("Of(%v): %d", l, e)
		}
		checkOf(t, m)
		other := slices.Clone(l)
		r.Shuffle(len(other), func(i, j int) { other[i], other[j] = other[j], other[i] })
		n, _ := delaunay.Of(other)
		var back []api.Triangle
		for _, c := range n.Triangles {
			back = append(back, normal(api.Triangle{slices.Index(l, other[c[0]]), slices.Index(l, other[c[1]]), slices.Index(l, other[c[2]])}))
		}
		slices.SortFunc(back, compareTriangles)
		if !slices.Equal(back, m.Triangles) {
			t.Fatalf("Of(%v) = %v, and %v in another order", l, m.Triangles, back)
		}
	}
}

// TestOfLong triangulates points with long numbers.
func TestOfLong(t *testing.T) {
	r := rand.New(rand.NewSource(4))
	long := func() api.Rational {
		b := []byte{byte('1' + r.Intn(9))}
		for len(b) < api.MaxDigits {
			b = append(b, byte('0'+r.Intn(10)))
		}
		return api.Rational(b)
	}
	var l []api.Point
	for range 12 {
		x, _ := rational.Div(long(), long())
		y, _ := rational.Div(long(), long())
		l = append(l, api.Point{X: x, Y: y})
	}
	m, e := delaunay.Of(l)
	if want := triangulation(l); e != api.OK || !slices.Equal(m.Triangles, want) {
		t.Errorf("Of = %v, %d, not %v", m.Triangles, e, want)
	}
}

func TestHull(t *testing.T) {
	for _, c := range []struct {
		points string
		want   []int
	}{
		{"0 0 1 0 1 1 0 1", []int{0, 1, 2, 3}},
		{"1 1 0 1 0 0 1 0", []int{2, 3, 0, 1}},
		{"0 1 0 0 0 2 3 0 1 0", []int{1, 3, 2}},
		{"1 1 0 0 3 0 0 3 1 0 3/2 3/2", []int{1, 2, 3}},
		{"0 5 0 -5 9 0", []int{1, 2, 0}},
	} {
		if l, e := delaunay.Hull(points(c.points)); e != api.OK || !slices.Equal(l, c.want) {
			t.Errorf("Hull(%s) = %v, %d", c.points, l, e)
		}
	}
}

// isInner reports whether a point is in a triangle of others, or between two of them.
func isInner(l []api.Point, n int) bool {
	for i, a := range l {
		for j, b := range l {
			if between, _ := vector.Between(a, b, l[n]); i != n && j != n && between {
				return true
			}
			for _, c := range l {
				first, _ := vector.Turn(a, b, l[n])
				second, _ := vector.Turn(b, c, l[n])
				third, _ := vector.Turn(c, a, l[n])
				if min(first, second, third) > 0 {
					return true
				}
			}
		}
	}
	return false
}

func TestHullLaws(t *testing.T) {
	r := rand.New(rand.NewSource(5))
	for range 150 {
		l := anyPoints(r, 3+r.Intn(9), 4+r.Intn(4))
		hull, e := delaunay.Hull(l)
		if e == api.ErrDependent {
			continue
		}
		for i := range l {
			if slices.Contains(hull, i) == isInner(l, i) {
				t.Fatalf("Hull(%v) = %v: %d", l, hull, i)
			}
		}
		for k, i := range hull {
			turn, _ := vector.Turn(l[i], l[hull[(k+1)%len(hull)]], l[hull[(k+2)%len(hull)]])
			if turn != 1 || k > 0 && exact.OrderPoints(l[hull[0]], l[i]) >= 0 {
				t.Fatalf("Hull(%v) = %v", l, hull)
			}
		}
	}
}

func TestNearest(t *testing.T) {
	for _, c := range []struct {
		points, at string
		want       int
	}{
		{"1 1", "5 5", 0}, {"0 0 4 0 2 1", "2 0", 2}, {"0 0 4 0 2 5", "2 0", 0}, {"4 0 0 0 2 5", "2 0", 0}, {"9 9 4 0 0 0 0 0", "2 0", 1},
		{"1 0 1 0 1/2 0", "0 0", 2}, {"1 0 1 0 3/2 0", "0 0", 0}, {"0 -5 3 4 -5 0 0 4", "0 0", 3},
	} {
		if i, e := delaunay.Nearest(points(c.points), point(c.at)); i != c.want || e != api.OK {
			t.Errorf("Nearest(%s, %s) = %d, %d", c.points, c.at, i, e)
		}
	}
	for _, c := range []struct {
		l    []api.Point
		at   api.Point
		want int
		e    api.Errno
	}{
		{nil, point("0 0"), 0, api.ErrEmpty},
		{nil, point("0 x"), 0, api.ErrNumber},
		{points("0 0 x 0"), point("0 0"), 0, api.ErrNumber},
		{points("9 9 0 x"), point("0 0"), 0, api.ErrNumber},
		{points("9 9 0 0"), point("2/2 0"), 0, api.ErrNumber},
		{append(bow(60), point("0 x")), point("0 0"), 0, api.ErrNumber},
		{bow(61), point("0 x"), 0, api.ErrNumber},
		{bow(61), point("0 0"), 0, api.ErrLimit},
		{bow(60), point("59 3000"), 55, api.OK},
		{[]api.Point{{X: most, Y: most}, {X: most, Y: "0"}}, api.Point{X: "-" + most, Y: "1/" + most}, 1, api.OK},
	} {
		if i, e := delaunay.Nearest(c.l, c.at); i != c.want || e != c.e {
			t.Errorf("Nearest(%v, %v) = %d, %d", c.l, c.at, i, e)
		}
	}
	for _, x := range notRight {
		for _, p := range []api.Point{{X: x, Y: "0"}, {X: "0", Y: x}} {
			if i, e := delaunay.Nearest([]api.Point{point("0 0"), p}, point("0 0")); i != 0 || e != api.ErrNumber {
				t.Errorf("Nearest = %d, %d", i, e)
			}
			if i, e := delaunay.Nearest(points("8 8 0 0"), p); i != 0 || e != api.ErrNumber {
				t.Errorf("Nearest = %d, %d", i, e)
			}
		}
	}
}

func TestNearestLaws(t *testing.T) {
	r := rand.New(rand.NewSource(6))
	for range 500 {
		l, at := anyPoints(r, 1+r.Intn(9), 4), anyPoints(r, 1, 5)[0]
		i, e := delaunay.Nearest(l, at)
		for k, p := range l {
			if order := rational.Compare(squared(p, at), squared(l[i], at)); e != api.OK || order < 0 || order == 0 && k < i {
				t.Fatalf("Nearest(%v, %v) = %d, %d", l, at, i, e)
			}
		}
	}
}
