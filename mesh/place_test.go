package mesh_test

import (
	"math/rand"
	"slices"
	"testing"

	"klippe/api"
	"klippe/mesh"
	"klippe/polygon"
	"klippe/rational"
	"klippe/vector"
)

func TestPlaces(t *testing.T) {
	m := example()
	for s, want := range map[string][]int{"1 1": {0, 1}, "1 1/2": {0}, "1/2 1": {1}, "0 0": {0, 1}, "2 0": {0, 2, 3}, "4 0": {2}, "2 1": {0, 3}, "3 1": {2, 3}, "2 2": {0, 1, 3}, "0 1": {1}, "3 0": {2}, "7/2 1": {2}, "-1 1": nil, "5 1": nil, "2 -1": nil, "2 3": nil, "-1 0": nil, "5 2": nil, "-1/1000 1": nil} {
		l, e1 := mesh.Locate(m, point(s))
		is, e2 := mesh.Contains(m, point(s))
		if !slices.Equal(l, want) || is != (len(want) > 0) || e1 != api.OK || e2 != api.OK {
			t.Errorf("Locate(%s) = %v, %d, Contains = %t, %d", s, l, e1, is, e2)
		}
	}
	for _, c := range []struct {
		triangle int
		p        string
		want     mesh.Weights
	}{{0, "1 1", mesh.Weights{"1/2", "0", "1/2"}}, {1, "1 1", mesh.Weights{"1/2", "1/2", "0"}}, {0, "2 0", mesh.Weights{"0", "1", "0"}}, {0, "0 2", mesh.Weights{"1", "-1", "1"}}, {2, "0 0", mesh.Weights{"2", "-1", "0"}}, {3, "3 5/3", mesh.Weights{"1/6", "1/2", "1/3"}}} {
		if w, e := mesh.Shares(m, c.triangle, point(c.p)); w != c.want || e != api.OK {
			t.Errorf("Shares(%d, %s) = %v, %d", c.triangle, c.p, w, e)
		}
	}
}

func TestPlaceLaws(t *testing.T) {
	r := rand.New(rand.NewSource(4))
	located, outside := 0, 0
	for range 400 {
		m := anyMesh(r)
		before := clone(m)
		hull, _ := polygon.Hull(m.Points)
		for range 8 {
			p := anyPlace(r, m)
			var want []int
			for i, triangle := range m.Triangles {
				c, _ := polygon.Hull(corners(m, triangle))
				if n, _ := polygon.Where(c, p); n >= 0 {
					want = append(want, i)
				}
				checkShares(t, m, i, p)
			}
			l, e := mesh.Locate(m, p)
			if !slices.Equal(l, want) || e != api.OK {
				t.Fatalf("Locate(%v, %v) = %v, %d", m, p, l, e)
			}
			n, _ := polygon.Where(hull, p)
			if is, e := mesh.Contains(m, p); is != (n >= 0) || is != (len(l) > 0) || e != api.OK {
				t.Fatalf("Contains(%v, %v) = %t, %d", m, p, is, e)
			}
			if n < 0 {
				outside++
			}
			located += len(l)
		}
		if !same(m, before) {
			t.Fatalf("%v has changed", before)
		}
	}
	if located < 2000 || outside < 200 {
		t.Errorf("%d located, %d outside", located, outside)
	}
}

// checkShares adds up the weights, and the corners with them.
func checkShares(t *testing.T, m api.Mesh, i int, p api.Point) {
	t.Helper()
	w, e := mesh.Shares(m, i, p)
	if e != api.OK || rational.Sum(w[:]...) != "1" {
		t.Fatalf("Shares(%v, %d, %v) = %v, %d", m, i, p, w, e)
	}
	sum := point("0 0")
	for k, at := range corners(m, m.Triangles[i]) {
		sum = api.Point{X: rational.Add(sum.X, rational.Mul(w[k], at.X)), Y: rational.Add(sum.Y, rational.Mul(w[k], at.Y))}
	}
	if sum != p {
		t.Fatalf("Shares(%v, %d, %v) = %v", m, i, p, w)
	}
}

func span(triangle int, from, to api.Rational) mesh.Span {
	return mesh.Span{Triangle: triangle, From: from, To: to}
}

func TestAlong(t *testing.T) {
	m := example()
	for _, c := range []struct {
		a, b string
		want []mesh.Span
	}{
		{"-1 1", "3 1", []mesh.Span{span(1, "1/4", "1/2"), span(0, "1/2", "3/4"), span(3, "3/4", "1")}},
		{"3 1", "-1 1", []mesh.Span{span(3, "0", "1/4"), span(0, "1/4", "1/2"), span(1, "1/2", "3/4")}},
		{"0 1", "4 1", []mesh.Span{span(1, "0", "1/4"), span(0, "1/4", "1/2"), span(3, "1/2", "3/4"), span(2, "3/4", "1")}},
		{"1 1/4", "1 1/2", []mesh.Span{span(0, "0", "1")}},
		// Along edges, inner ones and others: of two triangles the lesser one.
		{"0 0", "2 2", []mesh.Span{span(0, "0", "1")}}, {"1 1", "3/2 3/2", []mesh.Span{span(0, "0", "1")}}, {"3 3", "-1 -1", []mesh.Span{span(0, "1/4", "3/4")}}, {"2 -1", "2 2", []mesh.Span{span(0, "1/3", "1")}}, {"2 1", "2 3", []mesh.Span{span(0, "0", "1/2")}}, {"4 2", "2 0", []mesh.Span{span(2, "0", "1")}}, {"0 0", "4 0", []mesh.Span{span(0, "0", "1/2"), span(2, "1/2", "1")}}, {"5 2", "-1 2", []mesh.Span{span(3, "1/6", "1/2"), span(1, "1/2", "5/6")}},
		// Outside, or at one point.
		{"0 3", "4 3", nil}, {"5 0", "9 0", nil}, {"-1 1", "1 -1", nil}, {"0 0", "-1 -1", nil}, {"0 0", "0 -1", nil}, {"2 2", "2 5", nil}, {"3 3", "5 1", nil}, {"0 0", "-5 0", nil},
		// Through a point of the mesh.
		{"1 -1", "3 1", []mesh.Span{span(2, "1/2", "1")}}, {"0 1", "4 -1", []mesh.Span{span(1, "0", "1/6"), span(0, "1/6", "1/2")}},
	} {
		l, e := mesh.Along(m, point(c.a), point(c.b))
		if !slices.Equal(l, c.want) || e != api.OK {
			t.Errorf("Along(%s, %s) = %v, %d", c.a, c.b, l, e)
		}
	}
}

// TestAlongLaws compares with the chords of all triangles.
func TestAlongLaws(t *testing.T) {
	r := rand.New(rand.NewSource(5))
	spans := 0
	for range 1000 {
		m := anyMesh(r)
		a, b := anyPlace(r, m), anyPlace(r, m)
		if a == b {
			continue
		}
		l, e := mesh.Along(m, a, b)
		var want []mesh.Span
		for i, triangle := range m.Triangles {
			c, _ := polygon.Hull(corners(m, triangle))
			from, to, found, _ := polygon.Chord(c, a, b)
			isNew := func(s mesh.Span) bool { return s.From == from && s.To == to }
			if found && !slices.ContainsFunc(want, isNew) {
				want = append(want, span(i, from, to))
			}
		}
		slices.SortFunc(want, func(x, y mesh.Span) int { return rational.Compare(x.From, y.From) })
		if !slices.Equal(l, want) || e != api.OK {
			t.Fatalf("Along(%v, %v, %v) = %v, %d, not %v", m, a, b, l, e, want)
		}
		for i := range len(l) - 1 {
			if l[i].To != l[i+1].From || l[i].Triangle == l[i+1].Triangle {
				t.Fatalf("Along(%v, %v, %v) = %v", m, a, b, l)
			}
		}
		isFrom, _ := mesh.Contains(m, a)
		isTo, _ := mesh.Contains(m, b)
		if isFrom && isTo && (len(l) == 0 || l[0].From != "0" || l[len(l)-1].To != "1") {
			t.Fatalf("Along(%v, %v, %v) = %v", m, a, b, l)
		}
		back, _ := mesh.Along(m, b, a)
		slices.Reverse(back)
		if !slices.EqualFunc(l, back, func(x, y mesh.Span) bool {
			return x.Triangle == y.Triangle && rational.Add(x.From, y.To) == "1" && rational.Add(x.To, y.From) == "1"
		}) {
			t.Fatalf("Along(%v, %v, %v) = %v, and backward %v", m, a, b, l, back)
		}
		spans += len(l)
	}
	if spans < 2000 {
		t.Errorf("only %d spans", spans)
	}
}

// TestErrors has each function with wrong meshes, and further wrong arguments behind them.
func TestErrors(t *testing.T) {
	bad := api.Point{X: "0", Y: "x"}
	for name, c := range wrong() {
		area, e1 := mesh.Area(c.m)
		edges, e2 := mesh.Edges(c.m)
		neighbours, e3 := mesh.Neighbours(c.m, -1)
		boundary, e4 := mesh.Boundary(c.m)
		corners, e5 := mesh.Corners(c.m)
		is, e6 := mesh.Contains(c.m, bad)
		l, e7 := mesh.Locate(c.m, bad)
		shares, e8 := mesh.Shares(c.m, -1, bad)
		spans, e9 := mesh.Along(c.m, bad, bad)
		turned, e10 := mesh.Turn(c.m, [2]int{-1, 0})
		for k, e := range []api.Errno{e1, e2, e3, e4, e5, e6, e7, e8, e9, e10} {
			if e != c.e {
				t.Errorf("%s: function %d: %d, not %d", name, k, e, c.e)
			}
		}
		if area != "" || len(edges) != 0 || neighbours != [3]int{} || len(boundary) != 0 || len(corners) != 0 || is || len(l) != 0 || shares != (mesh.Weights{}) || len(spans) != 0 || !isEmpty(turned) {
			t.Errorf("%s: a result is not zero", name)
		}
	}
	m := example()
	for _, i := range []int{-1, 4, 1 << 40, -1 << 40} {
		neighbours, e1 := mesh.Neighbours(m, i)
		shares, e2 := mesh.Shares(m, i, bad)
		if neighbours != [3]int{} || e1 != api.ErrRange || shares != (mesh.Weights{}) || e2 != api.ErrRange {
			t.Errorf("Neighbours(%d) = %v, %d, Shares = %v, %d", i, neighbours, e1, shares, e2)
		}
	}
	for _, x := range notRight {
		for _, p := range []api.Point{{X: x, Y: "0"}, {X: "0", Y: x}} {
			is, e1 := mesh.Contains(m, p)
			l, e2 := mesh.Locate(m, p)
			shares, e3 := mesh.Shares(m, 0, p)
			spans, e4 := mesh.Along(m, p, p)
			_, e5 := mesh.Along(m, point("0 0"), p)
			_, e6 := mesh.Along(m, p, point("0 0"))
			if is || len(l) != 0 || shares != (mesh.Weights{}) || len(spans) != 0 || !slices.Equal([]api.Errno{e1, e2, e3, e4, e5, e6}, slices.Repeat([]api.Errno{api.ErrNumber}, 6)) {
				t.Errorf("%v: %t, %d, %v, %d, %v, %d, %v, %d, %d, %d", p, is, e1, l, e2, shares, e3, spans, e4, e5, e6)
			}
		}
	}
	for _, p := range []string{"1 1", "9 9"} {
		if l, e := mesh.Along(m, point(p), point(p)); len(l) != 0 || e != api.ErrZero {
			t.Errorf("Along = %v, %d", l, e)
		}
	}
}

// TestLongNumbers has results that are too long, and others for which only the numbers on the way are.
func TestLongNumbers(t *testing.T) {
	m := api.Mesh{Points: []api.Point{{X: "0", Y: "-" + most}, {X: most, Y: "0"}, {X: "0", Y: most}}, Triangles: []api.Triangle{{0, 1, 2}}}
	if w, e := mesh.Shares(m, 0, point("0 0")); w != (mesh.Weights{"1/2", "0", "1/2"}) || e != api.OK {
		t.Errorf("Shares = %v, %d", w, e)
	}
	if w, e := mesh.Shares(m, 0, point("1/2 0")); w != (mesh.Weights{}) || e != api.ErrLimit {
		t.Errorf("Shares = %v, %d", w, e)
	}
	if l, e := mesh.Along(m, api.Point{X: "-" + most, Y: "1"}, api.Point{X: most, Y: "1"}); len(l) != 0 || e != api.ErrLimit {
		t.Errorf("Along = %v, %d", l, e)
	}
	if l, e := mesh.Along(m, api.Point{X: "-" + most, Y: "0"}, api.Point{X: most, Y: "0"}); !slices.Equal(l, []mesh.Span{span(0, "1/2", "1")}) || e != api.OK {
		t.Errorf("Along = %v, %d", l, e)
	}
	if l, e := mesh.Locate(m, api.Point{X: "1/" + most, Y: rational.Sub(most, "1")}); !slices.Equal(l, []int{0}) || e != api.OK {
		t.Errorf("Locate = %v, %d", l, e)
	}
	if is, e := mesh.Contains(m, api.Point{X: "1/" + most, Y: most}); is || e != api.OK {
		t.Errorf("Contains = %t, %d", is, e)
	}
}

// TestLargeMesh has as many triangles as a grid can have.
func TestLargeMesh(t *testing.T) {
	m, _ := mesh.Grid(vector.At(-1, -1), vector.At(20, 30), 15, 15)
	spans, e := mesh.Along(m, vector.At(-1, -1), point("20 29"))
	if len(spans) < 29 || e != api.OK || spans[0].From != "0" || spans[len(spans)-1].To != "1" {
		t.Errorf("Along: %d spans, %d", len(spans), e)
	}
	last := len(m.Triangles) - 1
	m.Triangles[last] = m.Triangles[0]
	if e := mesh.Check(m); e != api.ErrCross {
		t.Errorf("Check = %d", e)
	}
	m.Triangles = m.Triangles[:last]
	if e := mesh.Check(m); e != api.ErrOpen {
		t.Errorf("Check = %d", e)
	}
}
