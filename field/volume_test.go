package field_test

import (
	"math/rand"
	"testing"

	"klippe/api"
	"klippe/field"
	"klippe/rational"
	"klippe/vector"
)

func TestVolume(t *testing.T) {
	for _, c := range []struct {
		f       string
		z, want api.Rational
	}{
		{"0 2 4 0", "0", "20/3"}, {"0 2 4 0", "-1", "32/3"}, {"0 2 4 0", "4", "0"}, {"0 2 4 0", "9", "0"}, {"0 2 4 0", "2", "1"}, {"0 2 4 0", "3", "1/8"}, {"1 1 1 1", "0", "4"}, {"-1 -1 -1 -1", "0", "0"}, {"0 0 0 0", "0", "0"},
		// The signs of each triangle.
		{"3 0 0 0", "0", "4"}, {"3 -3 0 0", "0", "3"}, {"0 3 0 0", "0", "2"}, {"0 3 -3 0", "0", "1"}, {"-3 3 -3 -3", "0", "1/2"}, {"-3 3 3 -3", "0", "3"}, {"0 -3 0 0", "0", "0"}, {"0 3 0 -7", "0", "2"}, {"0 -3 0 6", "0", "4"}, {"-2 3 -2 -1", "0", "18/25"}, {"1 -2 1 1", "0", "70/27"},
	} {
		if v, e := field.Volume(square(), of(c.f), c.z); v != c.want || e != api.OK {
			t.Errorf("Volume(%s, %s) = %s, %d", c.f, c.z, v, e)
		}
	}
	for _, c := range []struct {
		f, g string
		want api.Rational
	}{{"0 2 4 0", "0 0 0 0", "20/3"}, {"0 0 0 0", "0 2 4 0", "0"}, {"5 7 9 5", "5 5 5 5", "20/3"}, {"0 2 4 0", "0 2 4 0", "0"}, {"1 2 3 4", "1 -1 3 9", "2"}, {"1 -1 3 9", "1 2 3 4", "10/3"}} {
		if v, e := field.Excess(square(), of(c.f), of(c.g)); v != c.want || e != api.OK {
			t.Errorf("Excess(%s, %s) = %s, %d", c.f, c.g, v, e)
		}
	}
}

func TestLongVolumes(t *testing.T) {
	m := square()
	for _, c := range []struct {
		f       api.Field
		z, want api.Rational
		e       api.Errno
	}{
		{api.Field{most, most, most, most}, rational.Sub(most, "1"), "4", api.OK}, {api.Field{most, most, most, most}, "0", "", api.ErrLimit},
		{api.Field{"0", most, "0", "0"}, "0", rational.Mul("2/3", most), api.OK}, {api.Field{"0", "0", most, "0"}, "0", "", api.ErrLimit},
		{api.Field{"1/" + most, "0", "0", "-1/" + most}, "0", "1/" + most, api.OK}, {of("1 0 0 0"), "1/" + most, "", api.ErrLimit},
	} {
		if v, e := field.Volume(m, c.f, c.z); v != c.want || e != c.e {
			t.Errorf("Volume(%v, %s) = %s, %d", c.f, c.z, v, e)
		}
	}
	small := api.Mesh{Points: []api.Point{point("0 0"), {X: "1/" + most, Y: "0"}, {X: "0", Y: "1"}}, Triangles: []api.Triangle{{0, 1, 2}}}
	if v, e := field.Excess(small, api.Field{most, most, most}, of("0 0 0")); v != "1/2" || e != api.OK {
		t.Errorf("Excess = %s, %d", v, e)
	}
	if v, e := field.Excess(m, api.Field{most, "0", most, "0"}, api.Field{"0", most, "0", most}); v != "" || e != api.ErrLimit {
		t.Errorf("Excess = %s, %d", v, e)
	}
}

// over adds up the prisms above the parts of all triangles.
func over(t *testing.T, m api.Mesh, f api.Field, z api.Rational) api.Rational {
	t.Helper()
	parts, e := field.Above(m, f, z)
	if e != api.OK {
		t.Fatalf("Above: %d", e)
	}
	sum := api.Rational("0")
	for _, p := range parts {
		for k := 2; k < len(p.Polygon); k++ {
			c := []api.Point{p.Polygon[0], p.Polygon[k-1], p.Polygon[k]}
			area, _ := vector.Area(c[0], c[1], c[2])
			heights := rational.Mul("-3", z)
			for _, at := range c {
				heights = rational.Add(heights, value(t, m, f, at))
			}
			sum = rational.Add(sum, rational.Mul("1/6", rational.Mul(area, heights)))
		}
	}
	return sum
}

// whole adds up the means of all triangles.
func whole(m api.Mesh, f api.Field) api.Rational {
	sum := api.Rational("0")
	for _, c := range m.Triangles {
		area, _ := vector.Area(m.Points[c[0]], m.Points[c[1]], m.Points[c[2]])
		sum = rational.Add(sum, rational.Mul(rational.Mul("1/6", area), rational.Sum(f[c[0]], f[c[1]], f[c[2]])))
	}
	return sum
}

func TestVolumeLaws(t *testing.T) {
	r := rand.New(rand.NewSource(5))
	for range 500 {
		m := anyMesh(r)
		f, g := anyField(r, m), anyField(r, m)
		z := anyHeight(r, f)
		if v, e := field.Volume(m, f, z); v != over(t, m, f, z) || e != api.OK {
			t.Fatalf("Volume(%v, %v, %s) = %s, %d, not %s", m, f, z, v, e, over(t, m, f, z))
		}
		low, _, _ := field.Range(m, f)
		size, _ := field.Volume(m, f, low)
		constant, _ := field.Constant(m, low)
		if size != rational.Sub(whole(m, f), whole(m, constant)) {
			t.Fatalf("Volume(%v, %v, %s) = %s", m, f, low, size)
		}
		there, e1 := field.Excess(m, f, g)
		back, e2 := field.Excess(m, g, f)
		if rational.Sub(there, back) != rational.Sub(whole(m, f), whole(m, g)) || e1 != api.OK || e2 != api.OK {
			t.Fatalf("Excess(%v, %v, %v) = %s, %d, and exchanged %s, %d", m, f, g, there, e1, back, e2)
		}
		minus, _ := field.Scale(m, g, "-1")
		difference, _ := field.Add(m, f, minus)
		if there != over(t, m, difference, "0") {
			t.Fatalf("Excess(%v, %v, %v) = %s", m, f, g, there)
		}
	}
}
