package field_test

import (
	"math/rand"
	"slices"
	"testing"

	"klippe/api"
	"klippe/field"
	"klippe/mesh"
	"klippe/rational"
	"klippe/samples"
	"klippe/vector"
)

var (
	most     = samples.Most()
	notRight = samples.NotRight()
)

func points(s string) []api.Point     { return samples.Points(s) }
func point(s string) api.Point        { return samples.Point(s) }
func of(s string) api.Field           { return samples.Numbers(s) }
func ratio(num, den int) api.Rational { x, _ := rational.Of(num, den); return x }

// square is the mesh of the chapter's examples, and hill the field.
func square() api.Mesh {
	return api.Mesh{Points: points("0 0 2 0 2 2 0 2"), Triangles: []api.Triangle{{0, 1, 2}, {0, 2, 3}}}
}

func hill() api.Field { return of("0 2 4 0") }

func anyMesh(r *rand.Rand) api.Mesh { return samples.Mesh(r.Intn(12), r.Intn) }

// anyField makes a field with small numbers, many of which are equal.
func anyField(r *rand.Rand, m api.Mesh) api.Field {
	f := make(api.Field, len(m.Points))
	for i := range f {
		f[i] = ratio(r.Intn(5)-2, 1+r.Intn(3)*r.Intn(2))
	}
	return f
}

// anyPlace makes a place in a mesh, often one of its points, or one on an edge.
func anyPlace(r *rand.Rand, m api.Mesh) api.Point {
	a, b, c := m.Points[r.Intn(len(m.Points))], m.Points[r.Intn(len(m.Points))], m.Points[r.Intn(len(m.Points))]
	p, _ := vector.Toward(a, b, ratio(r.Intn(6), 5))
	p, _ = vector.Toward(p, c, ratio(r.Intn(5)*r.Intn(2), 4))
	return p
}

func clone(m api.Mesh) api.Mesh {
	return api.Mesh{Points: slices.Clone(m.Points), Triangles: slices.Clone(m.Triangles)}
}

func same(a, b api.Mesh) bool {
	return slices.Equal(a.Points, b.Points) && slices.Equal(a.Triangles, b.Triangles)
}

func TestCheck(t *testing.T) {
	for _, c := range []struct {
		f api.Field
		e api.Errno
	}{{hill(), api.OK}, {of("0 0 0 0"), api.OK}, {api.Field{most, "-" + most, "1/" + most, "1/2"}, api.OK}, {nil, api.ErrSize}, {of("1 2 3"), api.ErrSize}, {of("1 2 3 4 5"), api.ErrSize}, {of("x 2 3"), api.ErrSize}, {of("1 2 3 x"), api.ErrNumber}} {
		if e := field.Check(square(), c.f); e != c.e {
			t.Errorf("Check(%v) = %d", c.f, e)
		}
	}
	for _, x := range notRight {
		for i := range 4 {
			f := hill()
			f[i] = x
			if e := field.Check(square(), f); e != api.ErrNumber {
				t.Errorf("Check(%v) = %d", f, e)
			}
		}
	}
}

func TestConstantAndPlane(t *testing.T) {
	for _, z := range []api.Rational{"0", "-7/3", most} {
		f, e1 := field.Constant(square(), z)
		g, e2 := field.Plane(square(), point("0 0"), z)
		if !slices.Equal(f, api.Field{z, z, z, z}) || !slices.Equal(f, g) || e1 != api.OK || e2 != api.OK {
			t.Errorf("Constant(%s) = %v, %d, Plane = %v, %d", z, f, e1, g, e2)
		}
	}
	for _, c := range []struct {
		x, y, z api.Rational
		want    api.Field
		e       api.Errno
	}{
		{"1", "0", "0", of("0 2 2 0"), api.OK}, {"0", "1", "0", of("0 0 2 2"), api.OK}, {"1/2", "-1/3", "5", of("5 6 16/3 13/3"), api.OK}, {"1/" + most, "0", "0", api.Field{"0", "2/" + most, "2/" + most, "0"}, api.OK},
		{most, "0", "-" + most, api.Field{"-" + most, most, most, "-" + most}, api.OK}, {most, "0", "0", nil, api.ErrLimit}, {"0", most, "0", nil, api.ErrLimit}, {"0", "1/7", "1/" + most, nil, api.ErrLimit},
	} {
		if f, e := field.Plane(square(), api.Point{X: c.x, Y: c.y}, c.z); !slices.Equal(f, c.want) || e != c.e {
			t.Errorf("Plane(%s, %s, %s) = %v, %d", c.x, c.y, c.z, f, e)
		}
	}
	// The place 0 0 is not in the sheet; the numbers on the way are long.
	far := api.Mesh{Points: []api.Point{{X: most, Y: "1"}, {X: most, Y: "2"}, {X: rational.Sub(most, "1"), Y: "1"}}, Triangles: []api.Triangle{{0, 1, 2}}}
	if f, e := field.Plane(far, api.Point{X: most, Y: "0"}, "0"); len(f) != 0 || e != api.ErrLimit {
		t.Errorf("Plane = %v, %d", f, e)
	}
	if f, e := field.Plane(far, point("1 -1"), "-"+most); !slices.Equal(f, of("-1 -2 -2")) || e != api.OK {
		t.Errorf("Plane = %v, %d", f, e)
	}
}

func TestEqual(t *testing.T) {
	for _, c := range []struct {
		f, g api.Field
		want bool
	}{{nil, nil, true}, {nil, api.Field{}, true}, {of("1 2"), of("1 2"), true}, {of("x 01"), of("x 01"), true}, {of("1 2"), of("2 1"), false}, {of("1 2"), of("1 2 3"), false}, {of("1"), nil, false}, {of("1"), of("01"), false}, {of("1/2"), of("2/4"), false}} {
		if field.Equal(c.f, c.g) != c.want || field.Equal(c.g, c.f) != c.want {
			t.Errorf("Equal(%v, %v) = %t", c.f, c.g, field.Equal(c.f, c.g))
		}
	}
}

func TestCalculate(t *testing.T) {
	m := square()
	if f, e := field.Add(m, hill(), of("1/2 -2 0 7")); !slices.Equal(f, of("1/2 0 4 7")) || e != api.OK {
		t.Errorf("Add = %v, %d", f, e)
	}
	if f, e := field.Scale(m, hill(), "-1/4"); !slices.Equal(f, of("0 -1/2 -1 0")) || e != api.OK {
		t.Errorf("Scale = %v, %d", f, e)
	}
	if f, e := field.Scale(m, hill(), "0"); !slices.Equal(f, of("0 0 0 0")) || e != api.OK {
		t.Errorf("Scale = %v, %d", f, e)
	}
	long := api.Field{"0", most, "0", "0"}
	if f, e := field.Add(m, long, of("0 1 0 0")); len(f) != 0 || e != api.ErrLimit {
		t.Errorf("Add = %v, %d", f, e)
	}
	if f, e := field.Add(m, long, of("9 -1 0 0")); len(f) != 4 || e != api.OK {
		t.Errorf("Add = %v, %d", f, e)
	}
	if f, e := field.Scale(m, long, "2"); len(f) != 0 || e != api.ErrLimit {
		t.Errorf("Scale = %v, %d", f, e)
	}
	if f, e := field.Scale(m, long, "1/"+most); !slices.Equal(f, of("0 1 0 0")) || e != api.OK {
		t.Errorf("Scale = %v, %d", f, e)
	}
	for _, c := range []struct {
		f, g string
		want bool
	}{{"0 2 4 0", "0 2 4 0", true}, {"0 2 4 0", "1 2 5 1/9", true}, {"0 2 4 0", "9 9 9 -1/1000", false}, {"0 2 4 0", "-1 9 9 9", false}, {"-5 -5 -5 -5", "-5 -4 -5 -5", true}} {
		if is, e := field.Below(m, of(c.f), of(c.g)); is != c.want || e != api.OK {
			t.Errorf("Below(%s, %s) = %t, %d", c.f, c.g, is, e)
		}
	}
	for s, want := range map[string][2]api.Rational{"0 2 4 0": {"0", "4"}, "4 2 -1/2 -1/3": {"-1/2", "4"}, "7 7 7 7": {"7", "7"}, "1/3 1/4 1/5 1/2": {"1/5", "1/2"}} {
		if low, high, e := field.Range(m, of(s)); low != want[0] || high != want[1] || e != api.OK {
			t.Errorf("Range(%s) = %s, %s, %d", s, low, high, e)
		}
	}
}

// TestCalculateLaws compares values at places.
func TestCalculateLaws(t *testing.T) {
	r := rand.New(rand.NewSource(1))
	for range 300 {
		m := anyMesh(r)
		f, g, k, p := anyField(r, m), anyField(r, m), ratio(r.Intn(9)-4, 1+r.Intn(3)), anyPlace(r, m)
		before, beforeF, beforeG := clone(m), slices.Clone(f), slices.Clone(g)
		sum, e1 := field.Add(m, f, g)
		scaled, e2 := field.Scale(m, f, k)
		atF, atG := value(t, m, f, p), value(t, m, g, p)
		if e1 != api.OK || e2 != api.OK || value(t, m, sum, p) != rational.Add(atF, atG) || value(t, m, scaled, p) != rational.Mul(k, atF) {
			t.Fatalf("%v at %v: sum %v, %d, multiple %v, %d", m, p, sum, e1, scaled, e2)
		}
		low, high, e := field.Range(m, f)
		if e != api.OK || rational.Compare(low, atF) > 0 || rational.Compare(atF, high) > 0 || !slices.Contains(f, low) || !slices.Contains(f, high) {
			t.Fatalf("Range(%v) = %s, %s, %d", f, low, high, e)
		}
		if is, e := field.Below(m, f, g); e != api.OK || is && rational.Compare(atF, atG) > 0 {
			t.Fatalf("Below(%v, %v) = %t, %d", f, g, is, e)
		}
		slope, z := api.Point{X: ratio(r.Intn(9)-4, 2), Y: ratio(r.Intn(9)-4, 3)}, k
		plane, e := field.Plane(m, slope, z)
		if want := rational.Sum(rational.Mul(slope.X, p.X), rational.Mul(slope.Y, p.Y), z); value(t, m, plane, p) != want || e != api.OK {
			t.Fatalf("Plane(%v, %v, %s) = %v, %d", m, slope, z, plane, e)
		}
		for i := range m.Triangles {
			if got, e := field.Slope(m, plane, i); got != slope || e != api.OK {
				t.Fatalf("Slope(%v, %v, %d) = %v, %d", m, plane, i, got, e)
			}
		}
		sum[0], scaled[0], plane[0] = "x", "x", "x"
		if !same(m, before) || !slices.Equal(f, beforeF) || !slices.Equal(g, beforeG) {
			t.Fatal("an argument has changed")
		}
	}
}

func value(t *testing.T, m api.Mesh, f api.Field, p api.Point) api.Rational {
	t.Helper()
	z, e := field.Value(m, f, p)
	if e != api.OK {
		t.Fatalf("Value(%v, %v, %v): %d", m, f, p, e)
	}
	return z
}

// answer tells of one call: its error, and whether its other results are zero values.
type answer struct {
	e    api.Errno
	none bool
}

// answers calls all functions; the fields f and g stand where each function has them, and what is not right behind them.
func answers(m api.Mesh, f, g api.Field) (one, two map[string]answer) {
	x, bad := api.Rational("x"), api.Point{X: "x", Y: "x"}
	one, two = map[string]answer{}, map[string]answer{}
	one["Check"] = answer{field.Check(m, f), true}
	v, e := field.Value(m, f, bad)
	one["Value"] = answer{e, v == ""}
	slope, e := field.Slope(m, f, -1)
	one["Slope"] = answer{e, slope == api.Point{}}
	normal, e := field.Normal(m, f, -1)
	one["Normal"] = answer{e, normal == api.Vector{}}
	scaled, e := field.Scale(m, f, x)
	one["Scale"] = answer{e, len(scaled) == 0}
	low, high, e := field.Range(m, f)
	one["Range"] = answer{e, low == "" && high == ""}
	parts, e := field.Above(m, f, x)
	one["Above"] = answer{e, len(parts) == 0}
	lines, e := field.Level(m, f, x)
	one["Level"] = answer{e, len(lines) == 0}
	volume, e := field.Volume(m, f, x)
	one["Volume"] = answer{e, volume == ""}
	knots, e := field.Profile(m, f, bad, bad)
	one["Profile"] = answer{e, len(knots) == 0}
	sum, e := field.Add(m, f, g)
	two["Add"] = answer{e, len(sum) == 0}
	is, e := field.Below(m, f, g)
	two["Below"] = answer{e, !is}
	excess, e := field.Excess(m, f, g)
	two["Excess"] = answer{e, excess == ""}
	return one, two
}

func TestErrorsOfMeshAndFields(t *testing.T) {
	long, wrong := of("1 2 3 4 5"), of("1 2 x 4")
	meshes := map[api.Errno]api.Mesh{
		api.ErrEmpty: {}, api.ErrLimit: {Points: make([]api.Point, 401), Triangles: square().Triangles}, api.ErrForm: {Points: square().Points, Triangles: []api.Triangle{{0, 2, 1}}}, api.ErrOpen: {Points: square().Points, Triangles: square().Triangles[:1]}, api.ErrCross: {Points: square().Points, Triangles: []api.Triangle{{0, 1, 2}, {0, 1, 3}}}, api.ErrUnknown: {Points: square().Points, Triangles: []api.Triangle{{0, 1, 4}}}, api.ErrNumber: {Points: points("0 0 2 0 2 2 0 02"), Triangles: square().Triangles}, api.ErrDuplicate: {Points: points("0 0 2 0 2 2 0 0"), Triangles: square().Triangles},
	}
	expect := func(what string, l map[string]answer, want api.Errno) {
		t.Helper()
		for name, a := range l {
			if a.e != want || !a.none {
				t.Errorf("%s of %s: %d, not %d, with the zero value: %t", name, what, a.e, want, a.none)
			}
		}
	}
	for want, m := range meshes {
		one, two := answers(m, nil, nil)
		expect("a wrong mesh", one, want)
		expect("a wrong mesh", two, want)
		constant, e1 := field.Constant(m, "x")
		plane, e2 := field.Plane(m, api.Point{}, "x")
		if len(constant) != 0 || len(plane) != 0 || e1 != want || e2 != want {
			t.Errorf("Constant = %v, %d, Plane = %v, %d, not %d", constant, e1, plane, e2, want)
		}
	}
	for _, c := range []struct {
		f    api.Field
		want api.Errno
	}{{nil, api.ErrSize}, {long, api.ErrSize}, {wrong, api.ErrNumber}, {of("x x x"), api.ErrSize}} {
		one, two := answers(square(), c.f, nil)
		expect("a wrong field", one, c.want)
		expect("a wrong field", two, c.want)
		_, two = answers(square(), c.f, wrong)
		expect("a wrong field", two, c.want)
		_, two = answers(square(), hill(), c.f)
		expect("a wrong second field", two, c.want)
	}
}

// TestErrorsOfNumbers has what can be wrong behind a mesh and fields.
func TestErrorsOfNumbers(t *testing.T) {
	m, f := square(), hill()
	for _, x := range notRight {
		constant, e1 := field.Constant(m, x)
		plane, e2 := field.Plane(m, point("1 1"), x)
		scaled, e3 := field.Scale(m, f, x)
		parts, e4 := field.Above(m, f, x)
		lines, e5 := field.Level(m, f, x)
		volume, e6 := field.Volume(m, f, x)
		if len(constant)+len(plane)+len(scaled)+len(parts)+len(lines)+len(volume) != 0 || !slices.Equal([]api.Errno{e1, e2, e3, e4, e5, e6}, slices.Repeat([]api.Errno{api.ErrNumber}, 6)) {
			t.Errorf("%s: %d, %d, %d, %d, %d, %d", x, e1, e2, e3, e4, e5, e6)
		}
		for _, p := range []api.Point{{X: x, Y: "0"}, {X: "0", Y: x}, {X: x, Y: "9"}} {
			plane, e1 := field.Plane(m, p, "0")
			value, e2 := field.Value(m, f, p)
			a, e3 := field.Profile(m, f, p, p)
			b, e4 := field.Profile(m, f, point("9 9"), p)
			c, e5 := field.Profile(m, f, p, point("9 9"))
			if len(plane)+len(value)+len(a)+len(b)+len(c) != 0 || !slices.Equal([]api.Errno{e1, e2, e3, e4, e5}, slices.Repeat([]api.Errno{api.ErrNumber}, 5)) {
				t.Errorf("%v: %d, %d, %d, %d, %d", p, e1, e2, e3, e4, e5)
			}
		}
	}
	for _, i := range []int{-1, 2, 1 << 40, -1 << 40} {
		slope, e1 := field.Slope(m, f, i)
		normal, e2 := field.Normal(m, f, i)
		if slope != (api.Point{}) || normal != (api.Vector{}) || e1 != api.ErrRange || e2 != api.ErrRange {
			t.Errorf("Slope(%d) = %v, %d, Normal = %v, %d", i, slope, e1, normal, e2)
		}
	}
}

// TestGrids has fields over the greatest grid.
func TestGrids(t *testing.T) {
	m, _ := mesh.Grid(point("0 0"), point("15 15"), 15, 15)
	f := make(api.Field, len(m.Points))
	for i, p := range m.Points {
		f[i] = rational.Mul(p.X, p.Y)
	}
	// Each cell has the mean of its four corners, less a sixth of what the diagonal bends.
	if v, e := field.Volume(m, f, "0"); e != api.OK || v != rational.Add(ratio(15*15*15*15, 4), ratio(225, 12)) {
		t.Errorf("Volume = %s, %d", v, e)
	}
	if knots, e := field.Profile(m, f, point("0 15"), point("15 0")); e != api.OK || len(knots) != 31 || knots[15].Value != value(t, m, f, point("15/2 15/2")) {
		t.Errorf("Profile = %v, %d", knots, e)
	}
}
