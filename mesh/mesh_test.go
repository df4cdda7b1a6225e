package mesh_test

import (
	"math/rand"
	"slices"
	"testing"

	"klippe/api"
	"klippe/mesh"
	"klippe/polygon"
	"klippe/rational"
	"klippe/samples"
	"klippe/vector"
)

var (
	most     = samples.Most()
	notRight = samples.NotRight()
)

func points(s string) []api.Point     { return samples.Points(s) }
func point(s string) api.Point        { return samples.Point(s) }
func ratio(num, den int) api.Rational { x, _ := rational.Of(num, den); return x }

func of(s string, triangles ...api.Triangle) api.Mesh {
	return api.Mesh{Points: points(s), Triangles: triangles}
}

// example is the grid of the chapter's examples.
func example() api.Mesh {
	return of("0 0 2 0 4 0 0 2 2 2 4 2", api.Triangle{0, 1, 4}, api.Triangle{0, 4, 3}, api.Triangle{1, 2, 5}, api.Triangle{1, 5, 4})
}

func clone(m api.Mesh) api.Mesh {
	return api.Mesh{Points: slices.Clone(m.Points), Triangles: slices.Clone(m.Triangles)}
}

func same(a, b api.Mesh) bool {
	return slices.Equal(a.Points, b.Points) && slices.Equal(a.Triangles, b.Triangles)
}

func anyMesh(r *rand.Rand) api.Mesh { return samples.Mesh(r.Intn(12), r.Intn) }

// anyPlace makes a place in a mesh or near it, often one of its points, or one on an edge.
func anyPlace(r *rand.Rand, m api.Mesh) api.Point {
	a, b, c := m.Points[r.Intn(len(m.Points))], m.Points[r.Intn(len(m.Points))], m.Points[r.Intn(len(m.Points))]
	p, _ := vector.Toward(a, b, ratio(r.Intn(7)-1, 5))
	p, _ = vector.Toward(p, c, ratio(r.Intn(5)*r.Intn(2), 4))
	return p
}

func isEmpty(m api.Mesh) bool { return len(m.Points) == 0 && len(m.Triangles) == 0 }

// wrong has meshes with their errors.
func wrong() map[string]struct {
	m api.Mesh
	e api.Errno
} {
	type wrong = struct {
		m api.Mesh
		e api.Errno
	}
	first := api.Triangle{0, 1, 2}
	many, most := example(), example()
	many.Triangles = slices.Repeat([]api.Triangle{{0, 1, 4}}, 801)
	most.Triangles = many.Triangles[:800]
	return map[string]wrong{
		"nothing":           {api.Mesh{}, api.ErrEmpty},
		"no triangles":      {of("0 0 1 0 0 1"), api.ErrEmpty},
		"empty and wrong":   {of("x 0"), api.ErrEmpty},
		"too many points":   {api.Mesh{Points: make([]api.Point, 401), Triangles: []api.Triangle{first}}, api.ErrLimit},
		"as many points":    {api.Mesh{Points: make([]api.Point, 400), Triangles: []api.Triangle{first}}, api.ErrNumber},
		"many triangles":    {many, api.ErrLimit},
		"as many triangles": {most, api.ErrCross},
		"wrong and many":    {api.Mesh{Points: make([]api.Point, 3), Triangles: many.Triangles}, api.ErrLimit},
		"X":                 {of("0 0 1/1 0 0 1", first), api.ErrNumber},
		"Y":                 {of("0 0 1 0 0 2/4", first), api.ErrNumber},
		"the same place":    {of("0 0 1 0 0 1 1 0", first), api.ErrDuplicate},
		"same before wrong": {of("0 0 1 0 1 0 x 1", first), api.ErrDuplicate},
		"wrong before same": {of("0 0 x 1 1 0 1 0", first), api.ErrNumber},
		"wrong twice":       {of("0 0 x 1 x 1", first), api.ErrNumber},
		"first unknown":     {of("0 0 1 0 0 1", api.Triangle{3, 1, 2}), api.ErrUnknown},
		"second unknown":    {of("0 0 1 0 0 1", api.Triangle{0, 3, 2}), api.ErrUnknown},
		"third unknown":     {of("0 0 1 0 0 1", api.Triangle{0, 1, 3}), api.ErrUnknown},
		"first negative":    {of("0 0 1 0 0 1", api.Triangle{-1, 1, 2}), api.ErrUnknown},
		"second negative":   {of("0 0 1 0 0 1", api.Triangle{0, -1, 2}), api.ErrUnknown},
		"third negative":    {of("0 0 1 0 0 1", api.Triangle{0, 1, -1}), api.ErrUnknown},
		"far too great":     {of("0 0 1 0 0 1", first, api.Triangle{1 << 40, 1, 2}), api.ErrUnknown},
		"clockwise":         {of("0 0 1 0 0 1", api.Triangle{0, 2, 1}), api.ErrForm},
		"on a line":         {of("0 0 1 0 2 0", first), api.ErrForm},
		"a point twice":     {of("0 0 1 0 0 1", api.Triangle{0, 1, 1}), api.ErrForm},
		"form, unknown":     {of("0 0 1 0 0 1", api.Triangle{0, 2, 1}, api.Triangle{0, 1, 3}), api.ErrForm},
		"unknown, form":     {of("0 0 1 0 0 1", api.Triangle{0, 1, 3}, api.Triangle{0, 2, 1}), api.ErrUnknown},
		"twice":             {of("0 0 1 0 0 1", first, api.Triangle{1, 2, 0}), api.ErrCross},
		"a part":            {of("0 0 4 0 0 4 1 1", first, api.Triangle{0, 1, 3}), api.ErrCross},
		"overlapping":       {of("0 0 4 0 4 4 0 4", first, api.Triangle{0, 1, 3}), api.ErrCross},
		"both diagonals":    {of("0 0 4 0 4 4 0 4", first, api.Triangle{0, 2, 3}, api.Triangle{0, 1, 3}, api.Triangle{1, 2, 3}), api.ErrCross},
		"a star":            {of("0 3 4 0 6 4 1 0 2 5", first, api.Triangle{3, 2, 4}), api.ErrCross},
		"half of a side":    {of("0 0 4 0 4 4 2 0 2 -3", first, api.Triangle{0, 4, 3}, api.Triangle{3, 4, 1}), api.ErrCross},
		"corner on a side":  {of("0 0 4 0 4 4 2 0 1 -3 3 -3", first, api.Triangle{3, 4, 5}), api.ErrCross},
		"side within one":   {of("0 0 4 0 4 4 1 0 3 0 2 -3", first, api.Triangle{3, 5, 4}), api.ErrCross},
		"side on a side":    {of("0 0 4 0 4 4 2 0 6 0 5 -3", first, api.Triangle{3, 5, 4}), api.ErrCross},
		"side from a point": {of("0 0 4 0 4 4 6 0 6 -3", first, api.Triangle{0, 4, 3}), api.ErrCross},
		"around twice":      {of("0 0 8 0 8 8 0 8 3 3 5 3 4 5", api.Triangle{4, 5, 6}, api.Triangle{0, 1, 2}, api.Triangle{0, 2, 3}), api.ErrCross},
		"no corner":         {of("0 0 4 0 0 4 1 1", first), api.ErrOpen},
		"no corner, far":    {of("0 0 4 0 0 4 9 9", first), api.ErrOpen},
		"no corner, near":   {of("0 0 4 0 0 4 2 2", first), api.ErrOpen},
		"apart":             {of("0 0 4 0 0 4 9 9 5 9 9 5", first, api.Triangle{3, 4, 5}), api.ErrOpen},
		"on one line":       {of("0 0 4 0 4 4 5 0 9 0 9 -4", first, api.Triangle{3, 5, 4}), api.ErrOpen},
		"in a point":        {of("0 0 4 0 0 4 -4 0 0 -4", first, api.Triangle{0, 3, 4}), api.ErrOpen},
		"on both sides":     {of("0 0 4 0 0 4 4 -4 8 0", first, api.Triangle{1, 3, 4}), api.ErrOpen},
		"with a bay":        {of("0 0 4 0 0 4 1 1", api.Triangle{0, 1, 3}, api.Triangle{0, 3, 2}), api.ErrOpen},
		"with a hole":       {ringed(false), api.ErrOpen},
		"without a corner":  {api.Mesh{Points: example().Points, Triangles: example().Triangles[1:]}, api.ErrOpen},
	}
}

// ringed is a square around a smaller one, in triangles, with or without the smaller one.
func ringed(isFull bool) api.Mesh {
	m := of("0 0 6 0 6 6 0 6 2 2 4 2 4 4 2 4", api.Triangle{0, 1, 5}, api.Triangle{0, 5, 4}, api.Triangle{1, 2, 6}, api.Triangle{1, 6, 5}, api.Triangle{2, 3, 7}, api.Triangle{2, 7, 6}, api.Triangle{3, 0, 4}, api.Triangle{3, 4, 7})
	if isFull {
		m.Triangles = append(m.Triangles, api.Triangle{4, 5, 6}, api.Triangle{4, 6, 7})
	}
	return m
}

func TestCheck(t *testing.T) {
	for _, m := range []api.Mesh{
		example(), ringed(true), of("0 0 1 0 0 1", api.Triangle{1, 2, 0}), of("0 0 1/2 -1/3 0 7", api.Triangle{2, 0, 1}),
		// Points on the border, at which it does not turn.
		of("0 0 1 0 2 0 0 2", api.Triangle{0, 1, 3}, api.Triangle{1, 2, 3}), of("0 0 1 0 2 0 1 1 0 2 0 1", api.Triangle{0, 1, 5}, api.Triangle{1, 2, 3}, api.Triangle{5, 3, 4}, api.Triangle{5, 1, 3}),
		{Points: []api.Point{point("0 0"), {X: most, Y: "0"}, {X: "1", Y: "1/" + most}}, Triangles: []api.Triangle{{0, 1, 2}}},
	} {
		before := clone(m)
		if e := mesh.Check(m); e != api.OK || !same(m, before) {
			t.Errorf("Check(%v) = %d", m, e)
		}
	}
	for name, c := range wrong() {
		if e := mesh.Check(c.m); e != c.e {
			t.Errorf("%s: Check = %d, not %d", name, e, c.e)
		}
	}
	for _, x := range notRight {
		for i := range 3 {
			for _, bad := range []api.Point{{X: x, Y: "5"}, {X: "5", Y: x}} {
				m := of("0 0 1 0 0 1", api.Triangle{0, 2, 1})
				m.Points[i] = bad
				if e := mesh.Check(m); e != api.ErrNumber {
					t.Errorf("Check(%v) = %d", m, e)
				}
			}
		}
	}
}

// corners returns the points of a triangle.
func corners(m api.Mesh, t api.Triangle) []api.Point {
	return []api.Point{m.Points[t[0]], m.Points[t[1]], m.Points[t[2]]}
}

// errorOf finds the error of a mesh of right points as the chapter says it.
func errorOf(m api.Mesh) api.Errno {
	for _, t := range m.Triangles {
		c := corners(m, t)
		if turn, _ := vector.Turn(c[0], c[1], c[2]); turn <= 0 {
			return api.ErrForm
		}
	}
	isCorner := map[int]bool{}
	area := api.Rational("0")
	for i, t := range m.Triangles {
		for _, other := range m.Triangles[:i] {
			if crosses(corners(m, t), corners(m, other)) {
				return api.ErrCross
			}
		}
		for _, k := range t {
			isCorner[k] = true
		}
		area = rational.Add(area, doubled(m, t))
	}
	hull, _ := polygon.Hull(m.Points)
	if whole, _ := polygon.Area(hull); len(isCorner) < len(m.Points) || whole != area {
		return api.ErrOpen
	}
	return api.OK
}

// doubled returns the doubled area of a triangle.
func doubled(m api.Mesh, t api.Triangle) api.Rational {
	c := corners(m, t)
	area, _ := vector.Area(c[0], c[1], c[2])
	return area
}

// crosses reports whether triangles have inner places in common; or corners in the other one, but not just a corner of both, or both ends of a side of both.
func crosses(a, b []api.Point) bool {
	p, _ := polygon.Hull(a)
	q, _ := polygon.Hull(b)
	if _, found, _ := polygon.Intersect(p, q); found {
		return true
	}
	common := map[api.Point]bool{}
	for _, x := range slices.Concat(a, b) {
		inP, _ := polygon.Where(p, x)
		inQ, _ := polygon.Where(q, x)
		if inP >= 0 && inQ >= 0 {
			common[x] = true
		}
	}
	for x := range common {
		if !slices.Contains(a, x) || !slices.Contains(b, x) {
			return true
		}
	}
	return false
}

// TestCheckLaws compares Check with the chapter's words, for meshes in which something is changed.
func TestCheckLaws(t *testing.T) {
	r := rand.New(rand.NewSource(1))
	counts := map[api.Errno]int{}
	for range 3000 {
		m := anyMesh(r)
		if e := mesh.Check(m); e != api.OK {
			t.Fatalf("Check(%v) = %d", m, e)
		}
		i, k := r.Intn(len(m.Triangles)), r.Intn(len(m.Points))
		switch r.Intn(6) {
		case 0:
			m.Triangles = slices.Delete(m.Triangles, i, i+1)
		case 1:
			m.Triangles[i][r.Intn(3)] = k
		case 2:
			m.Points[k] = anyPlace(r, m)
		case 3:
			m.Triangles[i] = api.Triangle{k, r.Intn(len(m.Points)), r.Intn(len(m.Points))}
		case 4:
			m.Triangles = append(m.Triangles, api.Triangle{k, r.Intn(len(m.Points)), r.Intn(len(m.Points))})
		case 5:
			m.Points = append(m.Points, anyPlace(r, m))
			m.Triangles[i][r.Intn(3)] = len(m.Points) - 1
		}
		want := errorOf(m)
		for j, p := range m.Points {
			if slices.Contains(m.Points[:j], p) {
				want = api.ErrDuplicate
			}
		}
		if len(m.Triangles) == 0 {
			want = api.ErrEmpty
		}
		if e := mesh.Check(m); e != want {
			t.Fatalf("Check(%v) = %d, not %d", m, e, want)
		}
		counts[want]++
	}
	for _, e := range []api.Errno{api.OK, api.ErrDuplicate, api.ErrForm, api.ErrCross, api.ErrOpen} {
		if counts[e] < 50 {
			t.Errorf("the errors are %v", counts)
		}
	}
}
