package field_test

import (
	"math/rand"
	"slices"
	"strings"
	"testing"

	"klippe/api"
	"klippe/field"
	"klippe/mesh"
	"klippe/rational"
	"klippe/vector"
)

func TestValue(t *testing.T) {
	for _, c := range []struct {
		p    string
		want api.Rational
		e    api.Errno
	}{
		{"0 0", "0", api.OK}, {"2 0", "2", api.OK}, {"2 2", "4", api.OK}, {"0 2", "0", api.OK}, {"1 1", "2", api.OK}, {"2 1", "3", api.OK}, {"0 1", "0", api.OK}, {"1 2", "2", api.OK}, {"1/2 1/3", "5/6", api.OK}, {"1/2 3/2", "1", api.OK},
		{"-1/1000 1", "", api.ErrOutside}, {"3 1", "", api.ErrOutside}, {"1 -1", "", api.ErrOutside}, {"1 2001/1000", "", api.ErrOutside}, {"3 3", "", api.ErrOutside},
	} {
		if z, e := field.Value(square(), hill(), point(c.p)); z != c.want || e != c.e {
			t.Errorf("Value(%s) = %s, %d", c.p, z, e)
		}
	}
	for i, want := range []string{"1 1", "2 0"} {
		p := point(want)
		slope, e1 := field.Slope(square(), hill(), i)
		normal, e2 := field.Normal(square(), hill(), i)
		if slope != p || e1 != api.OK || normal != (api.Vector{X: rational.Neg(p.X), Y: rational.Neg(p.Y), Z: "1"}) || e2 != api.OK {
			t.Errorf("Slope(%d) = %v, %d, Normal = %v, %d", i, slope, e1, normal, e2)
		}
	}
	if normal, e := field.Normal(square(), of("7 7 7 7"), 1); normal != vector.Of(0, 0, 1) || e != api.OK {
		t.Errorf("Normal = %v, %d", normal, e)
	}
}

// TestLongValues has results that are too long, and others for which only the numbers on the way are.
func TestLongValues(t *testing.T) {
	m := api.Mesh{Points: []api.Point{point("0 0"), {X: most, Y: "0"}, {X: "0", Y: most}}, Triangles: []api.Triangle{{0, 1, 2}}}
	long := ten(199) // its share in the greatest number is not short
	for _, c := range []struct {
		f    api.Field
		p    api.Point
		want api.Rational
		e    api.Errno
	}{
		{api.Field{"0", most, most}, point("1/7 1/5"), "12/35", api.OK}, {api.Field{"0", most, "0"}, api.Point{X: long, Y: "1"}, long, api.OK}, {api.Field{"5", "5", "5"}, api.Point{X: "1/" + most, Y: "1/" + most}, "5", api.OK},
		{of("0 1 0"), point("1/2 1"), "", api.ErrLimit}, {of("0 1 0"), point("1 1/2"), "1/" + most, api.OK},
		{of("0 1 0"), api.Point{X: most, Y: "1"}, "", api.ErrOutside},
	} {
		if z, e := field.Value(m, c.f, c.p); z != c.want || e != c.e {
			t.Errorf("Value(%v, %v) = %s, %d", c.f, c.p, z, e)
		}
	}
	small := api.Mesh{Points: []api.Point{point("0 0"), {X: "1/" + most, Y: "0"}, {X: "0", Y: "1"}}, Triangles: []api.Triangle{{0, 1, 2}}}
	if slope, e := field.Slope(small, of("0 1 1"), 0); slope != (api.Point{X: most, Y: "1"}) || e != api.OK {
		t.Errorf("Slope = %v, %d", slope, e)
	}
	if normal, e := field.Normal(small, of("0 1 1"), 0); normal != (api.Vector{X: "-" + most, Y: "-1", Z: "1"}) || e != api.OK {
		t.Errorf("Normal = %v, %d", normal, e)
	}
	low := api.Mesh{Points: []api.Point{point("0 0"), point("1 0"), {X: "0", Y: "1/" + most}}, Triangles: []api.Triangle{{0, 1, 2}}}
	for _, c := range []struct {
		m api.Mesh
		f string
	}{{small, "0 2 0"}, {low, "0 0 2"}} {
		slope, e1 := field.Slope(c.m, of(c.f), 0)
		normal, e2 := field.Normal(c.m, of(c.f), 0)
		if slope != (api.Point{}) || normal != (api.Vector{}) || e1 != api.ErrLimit || e2 != api.ErrLimit {
			t.Errorf("Slope = %v, %d, Normal = %v, %d", slope, e1, normal, e2)
		}
	}
}

// ten returns a power of ten.
func ten(n int) api.Rational { return api.Rational("1" + strings.Repeat("0", n)) }

// TestValueLaws adds up the numbers with the shares of all triangles that have a place.
func TestValueLaws(t *testing.T) {
	r := rand.New(rand.NewSource(2))
	for range 400 {
		m := anyMesh(r)
		f, p := anyField(r, m), anyPlace(r, m)
		for i, at := range m.Points {
			if value(t, m, f, at) != f[i] {
				t.Fatalf("Value(%v, %v, %v) = %s", m, f, at, value(t, m, f, at))
			}
		}
		l, _ := mesh.Locate(m, p)
		for _, i := range l {
			w, _ := mesh.Shares(m, i, p)
			sum := api.Rational("0")
			for k, number := range m.Triangles[i] {
				sum = rational.Add(sum, rational.Mul(w[k], f[number]))
			}
			if value(t, m, f, p) != sum {
				t.Fatalf("Value(%v, %v, %v) = %s", m, f, p, value(t, m, f, p))
			}
		}
		for i, triangle := range m.Triangles {
			slope, e1 := field.Slope(m, f, i)
			normal, e2 := field.Normal(m, f, i)
			a := triangle[0]
			for _, b := range triangle[1:] {
				rise := rational.Add(rational.Mul(slope.X, rational.Sub(m.Points[b].X, m.Points[a].X)), rational.Mul(slope.Y, rational.Sub(m.Points[b].Y, m.Points[a].Y)))
				if rational.Add(f[a], rise) != f[b] || e1 != api.OK {
					t.Fatalf("Slope(%v, %v, %d) = %v, %d", m, f, i, slope, e1)
				}
			}
			if normal != (api.Vector{X: rational.Neg(slope.X), Y: rational.Neg(slope.Y), Z: "1"}) || e2 != api.OK {
				t.Fatalf("Normal(%v, %v, %d) = %v, %d", m, f, i, normal, e2)
			}
		}
	}
}

func knots(s string) []api.Knot {
	var l []api.Knot
	for _, p := range points(s) {
		l = append(l, api.Knot{At: p.X, Value: p.Y})
	}
	return l
}

func TestProfile(t *testing.T) {
	for _, c := range []struct{ a, b, want string }{
		{"0 1", "2 1", "0 0 1/2 2 1 3"}, {"2 1", "0 1", "0 3 1/2 2 1 0"}, {"1 1", "2 1", "0 2 1 3"}, {"0 0", "2 2", "0 0 1 4"}, {"1/2 1/2", "1 1", "0 1 1 2"}, {"0 0", "0 2", "0 0 1 0"}, {"2 0", "0 2", "0 2 1/2 2 1 0"}, {"1 0", "1 1/2", "0 1 1 3/2"}, {"3/2 0", "0 2", "0 3/2 3/7 12/7 1 0"},
	} {
		if l, e := field.Profile(square(), hill(), point(c.a), point(c.b)); !slices.Equal(l, knots(c.want)) || e != api.OK {
			t.Errorf("Profile(%s, %s) = %v, %d", c.a, c.b, l, e)
		}
	}
	check := func(m api.Mesh, f api.Field, a, b api.Point, want api.Errno) {
		t.Helper()
		if l, e := field.Profile(m, f, a, b); len(l) != 0 || e != want {
			t.Errorf("Profile(%v, %v) = %v, %d", a, b, l, e)
		}
	}
	check(square(), hill(), point("1 1"), point("1 1"), api.ErrZero)
	check(square(), hill(), point("9 1"), point("9 1"), api.ErrZero)
	for _, c := range [][2]string{{"-1 1", "1 1"}, {"1 1", "3 1"}, {"-1 1", "3 1"}, {"5 5", "6 6"}, {"1 -1", "1 -2"}, {"2001/1000 0", "1 0"}, {"2 0", "3 0"}, {"-1 1", "1 3"}} {
		check(square(), hill(), point(c[0]), point(c[1]), api.ErrOutside)
	}
	// A share, or a value, is too long; that a place is outside comes first.
	a, b, far := point("0 1"), api.Point{X: "2", Y: rational.Sub("1", "1/"+most)}, api.Point{X: "-1/" + most, Y: "1"}
	check(square(), hill(), a, b, api.ErrLimit)
	check(square(), hill(), far, b, api.ErrOutside)
	check(square(), hill(), b, far, api.ErrOutside)
	check(square(), api.Field{"0", "1/7", most, "0"}, point("0 1/3"), point("2 1/3"), api.ErrLimit)
	if l, e := field.Profile(square(), api.Field{"0", "0", most, "0"}, a, point("2 1")); e != api.OK || len(l) != 3 {
		t.Errorf("Profile = %v, %d", l, e)
	}
}

// TestProfileLaws looks at the values at the knots and between them, and for the knots of all edges.
func TestProfileLaws(t *testing.T) {
	r := rand.New(rand.NewSource(3))
	count := 0
	for range 600 {
		m := anyMesh(r)
		f, a, b := anyField(r, m), anyPlace(r, m), anyPlace(r, m)
		if a == b {
			continue
		}
		l, e := field.Profile(m, f, a, b)
		if e != api.OK || l[0].At != "0" || l[len(l)-1].At != "1" {
			t.Fatalf("Profile(%v, %v, %v, %v) = %v, %d", m, f, a, b, l, e)
		}
		spans, _ := mesh.Along(m, a, b)
		if len(l) != len(spans)+1 {
			t.Fatalf("Profile(%v, %v, %v, %v) = %v, with the spans %v", m, f, a, b, l, spans)
		}
		for i, k := range l {
			at, _ := vector.Toward(a, b, k.At)
			if value(t, m, f, at) != k.Value || i < len(spans) && spans[i].From != k.At {
				t.Fatalf("Profile(%v, %v, %v, %v) = %v, with the spans %v", m, f, a, b, l, spans)
			}
			if i == 0 {
				continue
			}
			middle, _ := vector.Toward(a, b, rational.Middle(l[i-1].At, k.At))
			if value(t, m, f, middle) != rational.Middle(l[i-1].Value, k.Value) {
				t.Fatalf("Profile(%v, %v, %v, %v) = %v", m, f, a, b, l)
			}
		}
		count += len(l)
	}
	if count < 1500 {
		t.Errorf("only %d knots", count)
	}
}
