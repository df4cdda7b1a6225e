package mesh_test

import (
	"math/rand"
	"slices"
	"testing"

	"klippe/api"
	"klippe/mesh"
	"klippe/polygon"
	"klippe/rational"
	"klippe/vector"
)

func TestGrid(t *testing.T) {
	m, e := mesh.Grid(point("0 0"), point("4 2"), 2, 1)
	if !same(m, example()) || e != api.OK {
		t.Errorf("Grid = %v, %d", m, e)
	}
	m, e = mesh.Grid(point("-1/2 1"), point("1/2 2"), 1, 3)
	want := of("-1/2 1 1/2 1 -1/2 4/3 1/2 4/3 -1/2 5/3 1/2 5/3 -1/2 2 1/2 2", api.Triangle{0, 1, 3}, api.Triangle{0, 3, 2}, api.Triangle{2, 3, 5}, api.Triangle{2, 5, 4}, api.Triangle{4, 5, 7}, api.Triangle{4, 7, 6})
	if !same(m, want) || e != api.OK {
		t.Errorf("Grid = %v, %d", m, e)
	}
	for columns := 1; columns <= mesh.MaxGrid; columns++ {
		rows := 16 - columns
		m, e := mesh.Grid(point("-1 1/3"), point("7 22/7"), columns, rows)
		if e != api.OK || mesh.Check(m) != api.OK || len(m.Triangles) != 2*columns*rows || len(m.Points) != (columns+1)*(rows+1) {
			t.Errorf("Grid of %d and %d: %v, %d", columns, rows, m, e)
		}
	}
	if m, e := mesh.Grid(point("0 0"), point("1 1"), 15, 15); e != api.OK || mesh.Check(m) != api.OK || m.Points[17] != point("1/15 1/15") || m.Points[255] != point("1 1") {
		t.Errorf("Grid = %v, %d", m, e)
	}
	long, e := mesh.Grid(api.Point{X: "-" + most, Y: "1/" + most}, api.Point{X: most, Y: "2/" + most}, 2, 1)
	if e != api.OK || mesh.Check(long) != api.OK || long.Points[1] != (api.Point{X: "0", Y: "1/" + most}) {
		t.Errorf("Grid = %v, %d", long, e)
	}
}

func TestGridErrors(t *testing.T) {
	check := func(low, high api.Point, columns, rows int, want api.Errno) {
		t.Helper()
		if m, e := mesh.Grid(low, high, columns, rows); !isEmpty(m) || e != want {
			t.Errorf("Grid(%v, %v, %d, %d) = %v, %d", low, high, columns, rows, m, e)
		}
	}
	zero, one := point("0 0"), point("1 1")
	for _, x := range notRight {
		for _, bad := range []api.Point{{X: x, Y: "0"}, {X: "0", Y: x}} {
			check(bad, one, 1, 1, api.ErrNumber)
			check(one, bad, 0, 1, api.ErrNumber)
			check(bad, bad, 1, 0, api.ErrNumber)
		}
	}
	for _, high := range []string{"0 0", "0 1", "1 0", "-1 1", "1 -1", "-1 -1", "-1/2 1/2"} {
		check(zero, point(high), 1, 1, api.ErrOrder)
		check(zero, point(high), 0, 99, api.ErrOrder)
	}
	for _, c := range [][2]string{{"0 5", "1 5"}, {"0 5", "9 4"}, {"5 0", "5 1"}, {"5 0", "4 9"}, {"1/2 1/3", "1/2 1"}, {"1/3 1/2", "1 1/2"}} {
		check(point(c[0]), point(c[1]), 1, 1, api.ErrOrder)
	}
	for _, n := range []int{0, -1, 16, 1 << 40, -1 << 40} {
		check(zero, one, n, 1, api.ErrRange)
		check(zero, one, 1, n, api.ErrRange)
		check(zero, api.Point{X: "1/" + most, Y: "1"}, n, 15, api.ErrRange)
	}
	check(zero, api.Point{X: "1/" + most, Y: "1"}, 2, 1, api.ErrLimit)
	check(zero, api.Point{X: "1", Y: "1/" + most}, 1, 2, api.ErrLimit)
	check(api.Point{X: "0", Y: "1/" + most}, point("1 1/7"), 1, 7, api.ErrLimit)
}

func TestExample(t *testing.T) {
	m := example()
	if area, e := mesh.Area(m); area != "16" || e != api.OK {
		t.Errorf("Area = %s, %d", area, e)
	}
	if l, e := mesh.Edges(m); !slices.Equal(l, [][2]int{{0, 1}, {0, 3}, {0, 4}, {1, 2}, {1, 4}, {1, 5}, {2, 5}, {3, 4}, {4, 5}}) || e != api.OK {
		t.Errorf("Edges = %v, %d", l, e)
	}
	for i, want := range [][3]int{{-1, 3, 1}, {0, -1, -1}, {-1, -1, 3}, {2, -1, 0}} {
		if l, e := mesh.Neighbours(m, i); l != want || e != api.OK {
			t.Errorf("Neighbours(%d) = %v, %d", i, l, e)
		}
	}
	if l, e := mesh.Boundary(m); !slices.Equal(l, []int{0, 1, 2, 5, 4, 3}) || e != api.OK {
		t.Errorf("Boundary = %v, %d", l, e)
	}
	if l, e := mesh.Corners(m); !slices.Equal(l, []int{0, 2, 5, 3}) || e != api.OK {
		t.Errorf("Corners = %v, %d", l, e)
	}
	if l, e := mesh.Boundary(ringed(true)); !slices.Equal(l, []int{0, 1, 2, 3}) || e != api.OK {
		t.Errorf("Boundary = %v, %d", l, e)
	}
	// The least index is no corner, or not on the border.
	m = of("2 0 2 1 4 0 0 4 0 0", api.Triangle{0, 2, 1}, api.Triangle{2, 3, 1}, api.Triangle{3, 4, 1}, api.Triangle{4, 0, 1})
	if l, e := mesh.Boundary(m); !slices.Equal(l, []int{0, 2, 3, 4}) || e != api.OK {
		t.Errorf("Boundary = %v, %d", l, e)
	}
	if l, e := mesh.Corners(m); !slices.Equal(l, []int{2, 3, 4}) || e != api.OK {
		t.Errorf("Corners = %v, %d", l, e)
	}
	m = of("1 1 4 0 0 4 0 0", api.Triangle{0, 1, 2}, api.Triangle{0, 2, 3}, api.Triangle{0, 3, 1})
	if l, e := mesh.Boundary(m); !slices.Equal(l, []int{1, 2, 3}) || e != api.OK {
		t.Errorf("Boundary = %v, %d", l, e)
	}
}

// has returns the triangle that has a side, or -1.
func has(m api.Mesh, from, to int) int {
	return slices.IndexFunc(m.Triangles, func(t api.Triangle) bool {
		return t[0] == from && t[1] == to || t[1] == from && t[2] == to || t[2] == from && t[0] == to
	})
}

// TestParts compares with what all pairs of points and triangles tell.
func TestParts(t *testing.T) {
	r := rand.New(rand.NewSource(2))
	for range 300 {
		m := anyMesh(r)
		before := clone(m)
		var edges [][2]int
		next := map[int]int{}
		for u := range m.Points {
			for v := range m.Points {
				there, back := has(m, u, v), has(m, v, u)
				if u < v && (there >= 0 || back >= 0) {
					edges = append(edges, [2]int{u, v})
				}
				if there >= 0 && back < 0 {
					next[u] = v
				}
			}
		}
		if l, e := mesh.Edges(m); !slices.Equal(l, edges) || e != api.OK || len(m.Points)+len(m.Triangles) != len(l)+1 {
			t.Fatalf("Edges(%v) = %v, %d", m, l, e)
		}
		checkBorder(t, m, next)
		sum := api.Rational("0")
		for i, triangle := range m.Triangles {
			sum = rational.Add(sum, doubled(m, triangle))
			want := [3]int{has(m, triangle[1], triangle[0]), has(m, triangle[2], triangle[1]), has(m, triangle[0], triangle[2])}
			if l, e := mesh.Neighbours(m, i); l != want || e != api.OK {
				t.Fatalf("Neighbours(%v, %d) = %v, %d", m, i, l, e)
			}
		}
		if area, e := mesh.Area(m); area != sum || e != api.OK {
			t.Fatalf("Area(%v) = %s, %d", m, area, e)
		}
		if !same(m, before) {
			t.Fatalf("%v has changed", before)
		}
	}
}

// checkBorder compares the border with the point behind each of its points, and its corners with the hull.
func checkBorder(t *testing.T, m api.Mesh, next map[int]int) {
	t.Helper()
	border, e1 := mesh.Boundary(m)
	if len(border) != len(next) || e1 != api.OK {
		t.Fatalf("Boundary(%v) = %v, %d", m, border, e1)
	}
	for k, i := range border {
		if next[i] != border[(k+1)%len(border)] || i < border[0] {
			t.Fatalf("Boundary(%v) = %v", m, border)
		}
	}
	hull, _ := polygon.Hull(m.Points)
	isNoCorner := func(i int) bool { return !slices.Contains(hull, m.Points[i]) }
	if l, e := mesh.Corners(m); !slices.Equal(l, slices.DeleteFunc(border, isNoCorner)) || e != api.OK {
		t.Fatalf("Corners(%v) = %v, %d", m, l, e)
	}
}

func TestLongAreas(t *testing.T) {
	triangle := api.Triangle{0, 1, 2}
	for _, c := range []struct {
		points []api.Point
		want   api.Rational
		e      api.Errno
	}{
		{[]api.Point{point("0 0"), {X: most, Y: "0"}, {X: "0", Y: "1/" + most}}, "1", api.OK},
		{[]api.Point{{X: most, Y: most}, {X: rational.Sub(most, "1"), Y: most}, {X: most, Y: rational.Sub(most, "1")}}, "1", api.OK},
		{[]api.Point{point("0 0"), {X: most, Y: "0"}, {X: "0", Y: "1"}}, most, api.OK},
		{[]api.Point{point("0 0"), {X: most, Y: "0"}, {X: "0", Y: "2"}}, "", api.ErrLimit},
		{[]api.Point{point("0 0"), {X: "1/" + most, Y: "0"}, {X: "0", Y: "1/2"}}, "", api.ErrLimit},
	} {
		if area, e := mesh.Area(api.Mesh{Points: c.points, Triangles: []api.Triangle{triangle}}); area != c.want || e != c.e {
			t.Errorf("Area(%v) = %s, %d", c.points, area, e)
		}
	}
}

func TestTurn(t *testing.T) {
	for _, c := range []struct {
		edge [2]int
		want []api.Triangle
		e    api.Errno
	}{
		{[2]int{0, 4}, []api.Triangle{{0, 1, 3}, {1, 4, 3}, {1, 2, 5}, {1, 5, 4}}, api.OK},
		{[2]int{1, 5}, []api.Triangle{{0, 1, 4}, {0, 4, 3}, {1, 2, 4}, {2, 5, 4}}, api.OK},
		{[2]int{1, 4}, []api.Triangle{{1, 5, 0}, {0, 4, 3}, {1, 2, 5}, {5, 4, 0}}, api.OK},
		{[2]int{4, 0}, nil, api.ErrNotFound}, {[2]int{1, 0}, nil, api.ErrNotFound}, {[2]int{0, 2}, nil, api.ErrNotFound}, {[2]int{0, 0}, nil, api.ErrNotFound}, {[2]int{-1, 0}, nil, api.ErrNotFound}, {[2]int{0, 6}, nil, api.ErrNotFound}, {[2]int{5, 1 << 40}, nil, api.ErrNotFound},
		{[2]int{0, 1}, nil, api.ErrOpen}, {[2]int{0, 3}, nil, api.ErrOpen}, {[2]int{4, 5}, nil, api.ErrOpen},
	} {
		m := example()
		got, e := mesh.Turn(m, c.edge)
		if !slices.Equal(got.Triangles, c.want) || e != c.e || e == api.OK && !slices.Equal(got.Points, m.Points) || e != api.OK && !isEmpty(got) || !same(m, example()) {
			t.Errorf("Turn(%v) = %v, %d", c.edge, got, e)
		}
		if e == api.OK {
			got.Points[0], got.Triangles[2], got.Triangles[0] = point("7 7"), api.Triangle{}, api.Triangle{}
		}
		if !same(m, example()) {
			t.Errorf("Turn(%v) shares its memory", c.edge)
		}
	}
	// The quadrilateral is straight at 0 or at 1, or turns right there.
	for _, m := range []api.Mesh{
		of("2 0 2 4 0 0 4 0", api.Triangle{0, 1, 2}, api.Triangle{1, 0, 3}),
		of("2 4 2 0 4 0 0 0", api.Triangle{0, 1, 2}, api.Triangle{1, 0, 3}),
		of("2 1 2 4 0 0 4 0", api.Triangle{0, 1, 2}, api.Triangle{1, 0, 3}, api.Triangle{0, 2, 3}),
		of("2 4 2 1 4 0 0 0", api.Triangle{0, 1, 2}, api.Triangle{1, 0, 3}, api.Triangle{1, 3, 2}),
	} {
		if got, e := mesh.Turn(m, [2]int{0, 1}); !isEmpty(got) || e != api.ErrForm {
			t.Errorf("Turn(%v) = %v, %d", m, got, e)
		}
	}
}

// around returns a triangle with its least index first.
func around(t api.Triangle) api.Triangle {
	for t[0] > min(t[1], t[2]) {
		t = api.Triangle{t[1], t[2], t[0]}
	}
	return t
}

func triangles(m api.Mesh) []api.Triangle {
	var l []api.Triangle
	for _, t := range m.Triangles {
		l = append(l, around(t))
	}
	slices.SortFunc(l, func(a, b api.Triangle) int { return slices.Compare(a[:], b[:]) })
	return l
}

// TestTurnLaws turns all edges, and back.
func TestTurnLaws(t *testing.T) {
	r := rand.New(rand.NewSource(3))
	counts := map[api.Errno]int{}
	for range 100 {
		m := anyMesh(r)
		edges, _ := mesh.Edges(m)
		for _, edge := range edges {
			got, e := mesh.Turn(m, edge)
			counts[e]++
			u, v := edge[0], edge[1]
			i, j := has(m, u, v), has(m, v, u)
			if i < 0 || j < 0 {
				if e != api.ErrOpen || !isEmpty(got) {
					t.Fatalf("Turn(%v, %v) = %v, %d", m, edge, got, e)
				}
				continue
			}
			p, q := m.Triangles[i][0]+m.Triangles[i][1]+m.Triangles[i][2]-u-v, m.Triangles[j][0]+m.Triangles[j][1]+m.Triangles[j][2]-u-v
			left, _ := vector.Turn(m.Points[p], m.Points[u], m.Points[q])
			right, _ := vector.Turn(m.Points[q], m.Points[v], m.Points[p])
			if left <= 0 || right <= 0 {
				if e != api.ErrForm || !isEmpty(got) {
					t.Fatalf("Turn(%v, %v) = %v, %d", m, edge, got, e)
				}
				continue
			}
			want := clone(m)
			want.Triangles[min(i, j)], want.Triangles[max(i, j)] = api.Triangle{u, q, p}, api.Triangle{q, v, p}
			if !same(got, want) || e != api.OK || mesh.Check(got) != api.OK {
				t.Fatalf("Turn(%v, %v) = %v, %d", m, edge, got, e)
			}
			back, e := mesh.Turn(got, [2]int{min(p, q), max(p, q)})
			before, _ := mesh.Area(m)
			after, _ := mesh.Area(got)
			if e != api.OK || !slices.Equal(triangles(back), triangles(m)) || before != after {
				t.Fatalf("Turn(%v, %v) leads back to %v, %d", m, edge, back, e)
			}
		}
	}
	if counts[api.OK] < 100 || counts[api.ErrForm] < 100 || counts[api.ErrOpen] < 100 {
		t.Errorf("the errors are %v", counts)
	}
}
