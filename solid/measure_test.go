package solid

import (
	"math/rand"
	"slices"
	"testing"

	"klippe/affine"
	"klippe/api"
	"klippe/rational"
	"klippe/vector"
)

func TestSide(t *testing.T) {
	for s, want := range map[string]int{"1/2 1 1": -1, "1/1000 1/1000 2999/1000": -1, "0 1 1": 0, "1 1 1": 0, "1/2 2 1": 0, "1/2 1 3": 0, "0 0 1": 0, "1 2 3": 0, "0 0 0": 0, "2 1 1": 1, "1/2 -1 1": 1, "1/2 1 3001/1000": 1, "0 0 4": 1, "1 2 -1": 1, "-1 -1 -1": 1, "1/2 1 -1/1000": 1} {
		if n, e := Side(box(), v(s)); n != want || e != api.OK {
			t.Errorf("Side(%s) = %d, %d", s, n, e)
		}
	}
	if n, e := Side(box(), api.Vector{X: most, Y: "1/" + most, Z: "-" + most}); n != 1 || e != api.OK {
		t.Errorf("Side = %d, %d", n, e)
	}
	for _, x := range notRight {
		for _, at := range []api.Vector{{X: x, Y: "1", Z: "1"}, {X: "1", Y: x, Z: "1"}, {X: "1", Y: "1", Z: x}} {
			n, e := Side(box(), at)
			n2, e2 := Side(Solid{}, at)
			if n != 0 || n2 != 0 || e != api.ErrNumber || e2 != api.ErrUnbounded {
				t.Errorf("Side(%v) = %d, %d, %d, %d", at, n, e, n2, e2)
			}
		}
	}
}

func TestMeasures(t *testing.T) {
	for _, c := range []struct {
		s                        Solid
		inner, low, high, centre string
		volume                   api.Rational
	}{{box(), "1/2 1 3/2", "0 0 0", "1 2 3", "1/2 1 3/2", "6"}, {pyramid(), "1/4 1/4 1/4", "0 0 0", "1 1 1", "1/4 1/4 1/4", "1/6"}} {
		inner, e1 := Inner(c.s)
		low, high, e2 := Bounds(c.s)
		volume, e3 := Volume(c.s)
		centre, e4 := Centroid(c.s)
		if inner != v(c.inner) || low != v(c.low) || high != v(c.high) || centre != v(c.centre) || volume != c.volume || e1 != api.OK || e2 != api.OK || e3 != api.OK || e4 != api.OK {
			t.Errorf("of %v: %v, %v, %v, %v, %s", c.s, inner, low, high, centre, volume)
		}
	}
	// The mean of the corners is not the centre of gravity.
	s, _ := Of(planes("-1 0 0 0, 0 -1 0 0, 0 0 -1 0, 0 0 1 1, 1 1 1 2"))
	inner, _ := Inner(s)
	centre, _ := Centroid(s)
	if volume, e := Volume(s); inner != v("1/2 1/2 1/2") || centre != v("15/28 15/28 11/28") || volume != "7/6" || e != api.OK {
		t.Errorf("of %v: %v, %v, %s", s, inner, centre, volume)
	}
}

func TestMeasureErrors(t *testing.T) {
	check := func(s Solid, want api.Errno) {
		t.Helper()
		inner, e1 := Inner(s)
		low, high, e2 := Bounds(s)
		volume, e3 := Volume(s)
		centre, e4 := Centroid(s)
		moved, e5 := Move(s, api.Affine{})
		n, e6 := Side(s, zero)
		if inner != (api.Vector{}) || low != inner || high != inner || centre != inner || volume != "" || !isEmpty(moved) || n != 0 {
			t.Errorf("results beside errors for %v", s)
		}
		for i, e := range []api.Errno{e1, e2, e3, e4, e5, e6} {
			if e != want {
				t.Errorf("%d: %d, not %d, for %v", i, e, want, s)
			}
		}
	}
	check(Solid{}, api.ErrUnbounded)
	check(with(box(), func(s *Solid) { s.Faces[0] = nil }), api.ErrForm)
	check(with(box(), func(s *Solid) { s.Vertices[7].Z = "4" }), api.ErrForm)
	check(with(box(), func(s *Solid) { s.Planes[3].Offset = "-3" }), api.ErrEmpty)
	check(with(box(), func(s *Solid) { s.Planes[3].Normal = zero }), api.ErrZero)
	check(with(box(), func(s *Solid) { s.Planes = slices.Repeat(s.Planes, 7) }), api.ErrLimit)
	for _, x := range notRight {
		check(with(box(), func(s *Solid) { s.Planes[2].Normal.Y = x }), api.ErrNumber)
	}
}

func TestMeasureLimits(t *testing.T) {
	far, e := Box(zero, api.Vector{X: most, Y: "7", Z: "1"})
	if e != api.OK {
		t.Fatalf("Box = %d", e)
	}
	if volume, e := Volume(far); volume != "" || e != api.ErrLimit {
		t.Errorf("Volume = %s, %d", volume, e)
	}
	if low, high, e := Bounds(far); low != zero || high != (api.Vector{X: most, Y: "7", Z: "1"}) || e != api.OK {
		t.Errorf("Bounds = %v, %v, %d", low, high, e)
	}
	for _, high := range []api.Vector{{X: "1/" + most, Y: "1", Z: "1"}, {X: "1", Y: "1/" + most, Z: "1"}, {X: "1", Y: "1", Z: "1/" + most}} {
		s, _ := Box(zero, high)
		inner, e := Inner(s)
		centre, e2 := Centroid(s)
		if inner != (api.Vector{}) || centre != inner || e != api.ErrLimit || e2 != e {
			t.Errorf("Inner = %v, %d, Centroid = %v, %d", inner, e, centre, e2)
		}
	}
	// The volume and the centre are short, the numbers on the way are not.
	flat, e := Box(api.Vector{X: "-" + most, Y: "-1/" + most, Z: "-1"}, api.Vector{X: most, Y: "1/" + most, Z: "1"})
	volume, e2 := Volume(flat)
	inner, e3 := Inner(flat)
	centre, e4 := Centroid(flat)
	if volume != "8" || inner != zero || centre != zero || e != api.OK || e2 != api.OK || e3 != api.OK || e4 != api.OK {
		t.Errorf("of %v: %s, %v, %v", flat, volume, inner, centre)
	}
}

// TestMeasureLaws divides a solid from its inner place, and looks where the places are.
func TestMeasureLaws(t *testing.T) {
	r := rand.New(rand.NewSource(5))
	for range 300 {
		s := anySolid(r)
		inner, e := Inner(s)
		if n, _ := Side(s, inner); n != -1 || inner != mean(s.Vertices) || e != api.OK {
			t.Fatalf("Inner(%v) = %v, %d", s, inner, e)
		}
		total, moment := api.Rational("0"), zero
		for _, around := range s.Faces {
			for k := 2; k < len(around); k++ {
				a, b, c := s.Vertices[around[0]], s.Vertices[around[k-1]], s.Vertices[around[k]]
				volume := tetrahedron(inner, a, b, c)
				centre, _ := vector.Scale(mean([]api.Vector{inner, a, b, c}), volume)
				total = rational.Add(total, volume)
				moment, _ = vector.Add(moment, centre)
			}
		}
		share, _ := rational.Div("1", total)
		middle, _ := vector.Scale(moment, share)
		volume, e := Volume(s)
		centre, e2 := Centroid(s)
		if volume != total || centre != middle || e != api.OK || e2 != api.OK {
			t.Fatalf("of %v: %s, %d, %v, %d", s, volume, e, centre, e2)
		}
		if n, _ := Side(s, centre); n != -1 || rational.Sign(volume) <= 0 {
			t.Fatalf("Centroid(%v) = %v", s, centre)
		}
		low, high, _ := Bounds(s)
		for _, at := range s.Vertices {
			if n, _ := Side(s, at); n != 0 {
				t.Fatalf("%v is on the side %d of %v", at, n, s)
			}
		}
		around, e := Box(low, high)
		if e != api.OK || slices.ContainsFunc(s.Vertices, func(at api.Vector) bool { n, _ := Side(around, at); return n > 0 }) {
			t.Fatalf("Bounds(%v) = %v, %v", s, low, high)
		}
		for _, touched := range around.Planes {
			if len(onPlane(touched, s.Vertices)) == 0 {
				t.Fatalf("Bounds(%v) = %v, %v", s, low, high)
			}
		}
	}
}

// tetrahedron returns the volume of a tetrahedron.
func tetrahedron(a, b, c, d api.Vector) api.Rational {
	first, _ := vector.Sub(b, a)
	second, _ := vector.Sub(c, a)
	third, _ := vector.Sub(d, a)
	cross, _ := vector.Cross(first, second)
	dot, _ := vector.Dot(cross, third)
	return rational.Mul("1/6", rational.Abs(dot))
}

// mapOf makes a map of the texts of its rows and its shift.
func mapOf(first, second, third, shift string) api.Affine {
	return api.Affine{Rows: [3]api.Vector{v(first), v(second), v(third)}, Shift: v(shift)}
}

func TestMove(t *testing.T) {
	far, _ := Box(v("10 20 30"), v("11 22 33"))
	turn, _ := Box(v("-2 0 0"), v("0 1 3"))
	mirror, _ := Box(v("-1 0 0"), v("0 2 3"))
	stretched, _ := Box(zero, v("2 1 3"))
	for _, c := range []struct {
		a    api.Affine
		want Solid
	}{
		{affine.Identity(), box()}, {mapOf("1 0 0", "0 1 0", "0 0 1", "10 20 30"), far}, {mapOf("0 -1 0", "1 0 0", "0 0 1", "0 0 0"), turn}, {mapOf("-1 0 0", "0 1 0", "0 0 1", "0 0 0"), mirror},
		{mapOf("2 0 0", "0 1/2 0", "0 0 1", "0 0 0"), stretched}, {mapOf("0 1 0", "1 0 0", "0 0 1", "0 0 0"), stretched},
	} {
		s := box()
		if moved, e := Move(s, c.a); !Equal(moved, c.want) || e != api.OK || !Equal(s, box()) {
			t.Errorf("Move(%v) = %v, %d", c.a, moved, e)
		}
	}
}

func TestMoveErrors(t *testing.T) {
	check := func(s Solid, a api.Affine, want api.Errno) {
		t.Helper()
		if moved, e := Move(s, a); !isEmpty(moved) || e != want {
			t.Errorf("Move(%v, %v) = %v, %d", s, a, moved, e)
		}
	}
	for _, a := range []api.Affine{mapOf("0 0 0", "0 0 0", "0 0 0", "0 0 0"), mapOf("1 0 0", "0 1 0", "0 0 0", "7 0 0"), mapOf("1 2 3", "4 5 6", "7 8 9", "0 0 0"), mapOf("1 0 0", "1 0 0", "0 0 1", "0 0 0")} {
		check(box(), a, api.ErrDependent)
		check(Solid{}, a, api.ErrUnbounded)
		for _, x := range notRight {
			for i := range 3 {
				spoilt := a
				spoilt.Rows[i].Y = x
				check(box(), spoilt, api.ErrNumber)
			}
			spoilt := a
			spoilt.Shift.Z = x
			check(box(), spoilt, api.ErrNumber)
			check(Solid{}, spoilt, api.ErrUnbounded)
		}
	}
	stretch := func(x, y, z api.Rational) api.Affine {
		return api.Affine{Rows: [3]api.Vector{{X: x, Y: "0", Z: "0"}, {X: "0", Y: y, Z: "0"}, {X: "0", Y: "0", Z: z}}, Shift: zero}
	}
	check(box(), stretch("1", most, "1"), api.ErrLimit)
	check(box(), api.Affine{Rows: affine.Identity().Rows, Shift: api.Vector{X: most, Y: "0", Z: "0"}}, api.ErrLimit)
	// The corners are short, the normal is not.
	check(pyramid(), stretch("7", "1", "1/"+most), api.ErrLimit)
	// The determinant is too long, and so are numbers on the way.
	small, _ := Box(zero, api.Vector{X: "1/" + most, Y: "1/" + most, Z: "1/" + most})
	unit, _ := Box(zero, vector.Of(1, 1, 1))
	if s, e := Move(small, stretch(most, most, most)); !Equal(s, unit) || e != api.OK {
		t.Errorf("Move = %v, %d", s, e)
	}
	if s, e := Move(unit, stretch("1/"+most, "1/"+most, "1/"+most)); !Equal(s, small) || e != api.OK {
		t.Errorf("Move = %v, %d", s, e)
	}
}

// TestMoveLaws compares with the planes through the moved corners.
func TestMoveLaws(t *testing.T) {
	r := rand.New(rand.NewSource(6))
	for range 300 {
		s := anySolid(r)
		var n [12]int
		for i := range n {
			n[i] = r.Intn(7) - 3
		}
		a := api.Affine{Rows: [3]api.Vector{vector.Of(n[0], n[1], n[2]), vector.Of(n[3], n[4], n[5]), vector.Of(n[6], n[7], n[8])}, Shift: vector.Of(n[9], n[10], n[11])}
		moved, e := Move(s, a)
		determinant, _ := affine.Determinant(a)
		if determinant == "0" {
			if e != api.ErrDependent {
				t.Fatalf("Move(%v, %v) = %d", s, a, e)
			}
			continue
		}
		var pushed []api.Plane
		for _, p := range s.Planes {
			q, _ := affine.Push(a, p)
			pushed = append(pushed, q)
		}
		want, _ := Of(pushed)
		if !Equal(moved, want) || e != api.OK || Check(moved) != api.OK {
			t.Fatalf("Move(%v, %v) = %v, %d", s, a, moved, e)
		}
		before, _ := Volume(s)
		after, _ := Volume(moved)
		centre, _ := Centroid(s)
		centre, _ = affine.Apply(a, centre)
		if middle, _ := Centroid(moved); after != rational.Mul(before, rational.Abs(determinant)) || middle != centre {
			t.Fatalf("Move(%v, %v) has the volume %s and the centre %v", s, a, after, middle)
		}
	}
}
