package delaunay_test

import (
	"math/rand"
	"slices"
	"testing"

	"klippe/api"
	"klippe/delaunay"
	"klippe/mesh"
	"klippe/samples"
)

func of(s string, triangles ...api.Triangle) api.Mesh {
	return api.Mesh{Points: points(s), Triangles: triangles}
}

func clone(m api.Mesh) api.Mesh {
	return api.Mesh{Points: slices.Clone(m.Points), Triangles: slices.Clone(m.Triangles)}
}

func same(a, b api.Mesh) bool {
	return slices.Equal(a.Points, b.Points) && slices.Equal(a.Triangles, b.Triangles)
}

// example is the mesh of the chapter's example.
func example() api.Mesh { return of("0 0 4 0 2 1 2 -1", api.Triangle{0, 1, 2}, api.Triangle{0, 3, 1}) }

func TestImprove(t *testing.T) {
	flat := of("0 0 6 0 3 1 1 -1 5 -1", api.Triangle{1, 2, 0}, api.Triangle{0, 3, 1}, api.Triangle{4, 1, 3})
	for _, c := range []struct {
		m               api.Mesh
		triangle, point int
		bad, flips      [][2]int
		want            []api.Triangle
	}{
		{example(), 0, 3, [][2]int{{0, 1}}, [][2]int{{0, 1}}, []api.Triangle{{0, 3, 2}, {1, 2, 3}}},
		{flat, 0, 3, [][2]int{{0, 1}}, [][2]int{{0, 1}, {1, 3}}, []api.Triangle{{0, 3, 2}, {1, 2, 4}, {2, 3, 4}}},
		// All points are on one circle, with either diagonal.
		{of("0 0 1 0 1 1 0 1", api.Triangle{2, 3, 0}, api.Triangle{1, 2, 0}), -1, 0, nil, nil, []api.Triangle{{0, 1, 2}, {0, 2, 3}}},
		{of("0 0 1 0 1 1 0 1", api.Triangle{3, 1, 2}, api.Triangle{1, 3, 0}), -1, 0, nil, nil, []api.Triangle{{0, 1, 3}, {1, 2, 3}}},
		{of("0 0 0 1 1 0", api.Triangle{1, 0, 2}), -1, 0, nil, nil, []api.Triangle{{0, 2, 1}}},
	} {
		before := clone(c.m)
		is, triangle, point, e := delaunay.Is(c.m)
		if c.triangle < 0 {
			if !is || triangle != 0 || point != 0 || e != api.OK {
				t.Errorf("Is(%v) = %t, %d, %d, %d", c.m, is, triangle, point, e)
			}
		} else if is || triangle != c.triangle || point != c.point || e != api.OK {
			t.Errorf("Is(%v) = %t, %d, %d, %d", c.m, is, triangle, point, e)
		}
		if bad, e := delaunay.Bad(c.m); !slices.Equal(bad, c.bad) || e != api.OK {
			t.Errorf("Bad(%v) = %v, %d", c.m, bad, e)
		}
		better, flips, e := delaunay.Improve(c.m)
		if !slices.Equal(better.Points, c.m.Points) || !slices.Equal(better.Triangles, c.want) || !slices.Equal(flips, c.flips) || e != api.OK {
			t.Errorf("Improve(%v) = %v, %v, %d", c.m, better, flips, e)
		}
		better.Points[0], better.Triangles[0] = api.Point{}, api.Triangle{}
		if !same(c.m, before) {
			t.Errorf("%v became %v", before, c.m)
		}
	}
}

// bad finds the bad edges as the chapter says it.
func bad(m api.Mesh) [][2]int {
	var l [][2]int
	edges, _ := mesh.Edges(m)
	for _, edge := range edges {
		var thirds []int
		for _, t := range m.Triangles {
			if slices.Contains(t[:], edge[0]) && slices.Contains(t[:], edge[1]) {
				thirds = append(thirds, t[0]+t[1]+t[2]-edge[0]-edge[1])
			}
		}
		if len(thirds) < 2 {
			continue
		}
		where, _ := delaunay.InCircle(m.Points[edge[0]], m.Points[edge[1]], m.Points[thirds[0]], m.Points[thirds[1]])
		if where > 0 {
			l = append(l, edge)
		}
	}
	return l
}

// inside finds the first triangle with a point inside of its circle, and this point.
func inside(m api.Mesh) (triangle, point int, found bool) {
	for i, t := range m.Triangles {
		for k, p := range m.Points {
			if where, _ := delaunay.InCircle(m.Points[t[0]], m.Points[t[1]], m.Points[t[2]], p); where > 0 {
				return i, k, true
			}
		}
	}
	return 0, 0, false
}

// improved flips edges one by one with package mesh.
func improved(m api.Mesh) (api.Mesh, [][2]int) {
	var flips [][2]int
	for {
		m = clone(m)
		for i, t := range m.Triangles {
			m.Triangles[i] = normal(t)
		}
		slices.SortFunc(m.Triangles, compareTriangles)
		l := bad(m)
		if len(l) == 0 {
			return m, flips
		}
		flips = append(flips, l[0])
		m, _ = mesh.Turn(m, l[0])
	}
}

func TestImproveLaws(t *testing.T) {
	r := rand.New(rand.NewSource(7))
	longest, good := 0, 0
	for range 250 {
		m := samples.Mesh(r.Intn(20), r.Intn)
		before := clone(m)
		triangle, point, found := inside(m)
		if is, i, k, e := delaunay.Is(m); is == found || i != triangle || k != point || e != api.OK {
			t.Fatalf("Is(%v) = %t, %d, %d, %d, not %d, %d", m, is, i, k, e, triangle, point)
		}
		l, e := delaunay.Bad(m)
		if want := bad(m); !slices.Equal(l, want) || e != api.OK || found != (len(l) > 0) {
			t.Fatalf("Bad(%v) = %v, %d, not %v", m, l, e, want)
		}
		better, flips, e := delaunay.Improve(m)
		if want, edges := improved(m); !same(better, want) || !slices.Equal(flips, edges) || e != api.OK {
			t.Fatalf("Improve(%v) = %v, %v, %d, not %v, %v", m, better, flips, e, want, edges)
		}
		if is, _, _, e := delaunay.Is(better); !is || mesh.Check(better) != api.OK || e != api.OK {
			t.Fatalf("Improve(%v) = %v", m, better)
		}
		if again, flips, _ := delaunay.Improve(better); !same(again, better) || len(flips) > 0 {
			t.Fatalf("Improve(%v) = %v, %v", better, again, flips)
		}
		if other, _ := delaunay.Of(m.Points); len(other.Triangles) != len(m.Triangles) || !same(m, before) {
			t.Fatalf("Of(%v) = %v", m, other)
		}
		longest = max(longest, len(flips))
		if !found {
			good++
		}
	}
	if longest < 25 || good < 10 {
		t.Errorf("at most %d flips, and %d meshes without bad edges", longest, good)
	}
}

// arch is a mesh of points on a parabola, with triangles that all have the first one.
func arch(n int) api.Mesh {
	var m api.Mesh
	for i := range n {
		m.Points = append(m.Points, api.Point{X: ratio(i, 1), Y: ratio(i*(n-i), 1)})
	}
	for i := 2; i < n; i++ {
		m.Triangles = append(m.Triangles, api.Triangle{0, i, i - 1})
	}
	return m
}

func TestImproveMany(t *testing.T) {
	m := arch(60)
	better, flips, e := delaunay.Improve(m)
	want, edges := improved(m)
	if !same(better, want) || !slices.Equal(flips, edges) || e != api.OK || len(flips) < 50 {
		t.Errorf("Improve = %v, %v, %d", better, flips, e)
	}
}

func TestMeshErrors(t *testing.T) {
	grid := func(columns, rows int) api.Mesh {
		m, _ := mesh.Grid(point("0 0"), point("9 9"), columns, rows)
		return m
	}
	first := api.Triangle{0, 1, 2}
	open := grid(8, 8)
	open.Triangles = open.Triangles[1:]
	long := grid(8, 8)
	long.Points[80].Y = "9/1"
	more := slices.Repeat(points("0 0"), 401)
	for name, c := range map[string]struct {
		m api.Mesh
		e api.Errno
	}{
		"nothing":          {api.Mesh{}, api.ErrEmpty},
		"more points":      {api.Mesh{Points: more, Triangles: []api.Triangle{first}}, api.ErrLimit},
		"X":                {of("0 0 1/1 0 0 1", first), api.ErrNumber},
		"equal":            {of("0 0 1 0 0 1 1 0", first), api.ErrDuplicate},
		"unknown":          {of("0 0 1 0 0 1", api.Triangle{0, 1, 3}), api.ErrUnknown},
		"less than 0":      {of("0 0 1 0 0 1", api.Triangle{0, 1, -1}), api.ErrUnknown},
		"clockwise":        {of("0 0 1 0 0 1", api.Triangle{0, 2, 1}), api.ErrForm},
		"overlapping":      {of("0 0 4 0 4 4 0 4", first, api.Triangle{0, 1, 3}), api.ErrCross},
		"no corner":        {of("0 0 4 0 0 4 1 1", first), api.ErrOpen},
		"many":             {grid(8, 8), api.ErrLimit},
		"sixty":            {grid(9, 5), api.OK},
		"more than sixty":  {append60(grid(9, 5)), api.ErrLimit},
		"many and open":    {open, api.ErrOpen},
		"many and a wrong": {long, api.ErrNumber},
	} {
		is, triangle, point, e := delaunay.Is(c.m)
		if e != c.e || is != (e == api.OK) || triangle != 0 || point != 0 {
			t.Errorf("%s: Is = %t, %d, %d, %d", name, is, triangle, point, e)
		}
		if bad, e := delaunay.Bad(c.m); e != c.e || len(bad) > 0 {
			t.Errorf("%s: Bad = %v, %d", name, bad, e)
		}
		better, flips, e := delaunay.Improve(c.m)
		if e != c.e || e != api.OK && !isEmpty(better) || len(flips) > 0 {
			t.Errorf("%s: Improve = %v, %v, %d", name, better, flips, e)
		}
	}
}

// append60 adds a point beyond the last side of a grid from 0 0 to 9 9 with 60 points.
func append60(m api.Mesh) api.Mesh {
	m.Points = append(m.Points, point("8 100"))
	k := len(m.Points) - 1
	for i := 50; i < 59; i++ {
		m.Triangles = append(m.Triangles, api.Triangle{i + 1, k, i})
	}
	return m
}
