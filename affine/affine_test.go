package affine

import (
	"math/rand"
	"testing"

	"klippe/api"
	"klippe/rational"
	"klippe/samples"
	"klippe/vector"
)

var (
	most     = samples.Most()
	notRight = samples.NotRight()
	zero     = vector.Of(0, 0, 0)
	up       = api.Plane{Normal: vector.Of(0, 0, 1), Offset: "1"}
)

func v(s string) api.Vector { return samples.Vector(s) }

// at makes a map of the texts of its rows and of its shift.
func at(rows [3]string, shift string) api.Affine {
	return api.Affine{Rows: [3]api.Vector{v(rows[0]), v(rows[1]), v(rows[2])}, Shift: v(shift)}
}

// quarter is the quarter turn of the chapter's examples.
func quarter() api.Affine { return at([3]string{"0 -1 0", "1 0 0", "0 0 1"}, "2 0 0") }

// stretch multiplies the three coordinates.
func stretch(x, y, z api.Rational) api.Affine {
	return api.Affine{Rows: [3]api.Vector{{X: x, Y: "0", Z: "0"}, {X: "0", Y: y, Z: "0"}, {X: "0", Y: "0", Z: z}}, Shift: zero}
}

// spoilt returns maps with one wrong number, at each of the twelve places.
func spoilt(x api.Rational) []api.Affine {
	var l []api.Affine
	for i := range 4 {
		for _, bad := range []api.Vector{{X: x, Y: "1", Z: "1"}, {X: "1", Y: x, Z: "1"}, {X: "1", Y: "1", Z: x}} {
			a := Identity()
			if i < 3 {
				a.Rows[i] = bad
			} else {
				a.Shift = bad
			}
			l = append(l, a)
		}
	}
	return l
}

func anyNumber(r *rand.Rand) api.Rational {
	x, _ := rational.Of(r.Intn(7)-3, 1+r.Intn(3)*r.Intn(2))
	return x
}

func anyVector(r *rand.Rand) api.Vector {
	return api.Vector{X: anyNumber(r), Y: anyNumber(r), Z: anyNumber(r)}
}

// anyMap makes a map with small numbers; it is singular now and then.
func anyMap(r *rand.Rand) api.Affine {
	a := api.Affine{Rows: [3]api.Vector{anyVector(r), anyVector(r), anyVector(r)}, Shift: anyVector(r)}
	if r.Intn(6) == 0 {
		a.Rows[r.Intn(3)] = a.Rows[r.Intn(3)]
	}
	return a
}

func TestCheck(t *testing.T) {
	for _, a := range []api.Affine{Identity(), quarter(), stretch("0", "0", "0"), stretch(most, "-"+most, "1/"+most)} {
		if e := Check(a); e != api.OK {
			t.Errorf("Check(%v) = %d", a, e)
		}
	}
	for _, x := range notRight {
		for _, a := range spoilt(x) {
			if e := Check(a); e != api.ErrNumber {
				t.Errorf("Check(%v) = %d", a, e)
			}
		}
	}
	if e := Check(api.Affine{}); e != api.ErrNumber {
		t.Errorf("Check of an empty map = %d", e)
	}
}

func TestEqual(t *testing.T) {
	if !Equal(quarter(), quarter()) || !Equal(api.Affine{}, api.Affine{}) || Equal(quarter(), Identity()) {
		t.Error("Equal")
	}
	for _, a := range spoilt("5/5") {
		if Equal(a, Identity()) || !Equal(a, a) {
			t.Errorf("Equal with %v", a)
		}
	}
	for _, x := range spoilt("1") {
		if Equal(x, spoilt("2")[0]) {
			t.Errorf("Equal with %v", x)
		}
	}
}

func TestIdentityAndTranslation(t *testing.T) {
	if a := Identity(); a != at([3]string{"1 0 0", "0 1 0", "0 0 1"}, "0 0 0") {
		t.Errorf("Identity = %v", a)
	}
	if a, e := Translation(v("1 -1/2 7")); a != at([3]string{"1 0 0", "0 1 0", "0 0 1"}, "1 -1/2 7") || e != api.OK {
		t.Errorf("Translation = %v, %d", a, e)
	}
	for _, x := range notRight {
		if a, e := Translation(api.Vector{X: "1", Y: "1", Z: x}); a != (api.Affine{}) || e != api.ErrNumber {
			t.Errorf("Translation with %s = %v, %d", x, a, e)
		}
	}
}

func TestShear(t *testing.T) {
	a, e := Shear(v("1 0 0"), v("0 0 2"))
	if a != at([3]string{"1 0 0", "0 1 0", "2 0 1"}, "0 0 0") || e != api.OK {
		t.Errorf("Shear = %v, %d", a, e)
	}
	if p, e := Apply(a, v("3 4 5")); p != v("3 4 11") || e != api.OK {
		t.Errorf("Apply = %v, %d", p, e)
	}
	back, _ := Shear(v("1 0 0"), v("0 0 -2"))
	if inverse, e := Inverse(a); inverse != back || e != api.OK {
		t.Errorf("Inverse = %v, %d", inverse, e)
	}
	if a, e := Shear(v("1 2 -1"), v("1/2 0 1/2")); a != at([3]string{"3/2 1 -1/2", "0 1 0", "1/2 1 1/2"}, "0 0 0") || e != api.OK {
		t.Errorf("Shear = %v, %d", a, e)
	}
	for _, c := range [][2]string{{"0 0 0", "1 2 3"}, {"1 2 3", "0 0 0"}} {
		if a, e := Shear(v(c[0]), v(c[1])); a != Identity() || e != api.OK {
			t.Errorf("Shear of %v = %v, %d", c, a, e)
		}
	}
	for _, c := range [][2]string{{"1 0 0", "1 0 0"}, {"1 2 3", "3 2 1"}, {"1 0 0", "-1/1000 5 5"}} {
		if a, e := Shear(v(c[0]), v(c[1])); a != (api.Affine{}) || e != api.ErrForm {
			t.Errorf("Shear of %v = %v, %d", c, a, e)
		}
	}
	if a, e := Shear(api.Vector{X: most, Y: "0", Z: "0"}, v("0 11 0")); a != (api.Affine{}) || e != api.ErrLimit {
		t.Errorf("Shear = %v, %d", a, e)
	}
	// Both are not perpendicular, though the dot product is too long for a result.
	if a, e := Shear(api.Vector{X: most, Y: "0", Z: "0"}, v("11 0 0")); a != (api.Affine{}) || e != api.ErrForm {
		t.Errorf("Shear = %v, %d", a, e)
	}
	for _, x := range notRight {
		bad := api.Vector{X: "1", Y: x, Z: "1"}
		for _, c := range [][2]api.Vector{{bad, zero}, {zero, bad}} {
			if a, e := Shear(c[0], c[1]); a != (api.Affine{}) || e != api.ErrNumber {
				t.Errorf("Shear of %v = %v, %d", c, a, e)
			}
		}
	}
}

func TestApplyAndDirect(t *testing.T) {
	for _, c := range [][3]string{{"0 0 0", "2 0 0", "0 0 0"}, {"3 5 7", "-3 3 7", "-5 3 7"}, {"1 1 0", "1 1 0", "-1 1 0"}, {"1/2 0 -1/3", "2 1/2 -1/3", "0 1/2 -1/3"}} {
		place, e1 := Apply(quarter(), v(c[0]))
		direction, e2 := Direct(quarter(), v(c[0]))
		if place != v(c[1]) || direction != v(c[2]) || e1 != api.OK || e2 != api.OK {
			t.Errorf("of %s: %v, %d, and %v, %d", c[0], place, e1, direction, e2)
		}
	}
	far := stretch("11", "1", "1")
	for _, x := range []api.Rational{most, "-" + most} {
		place, e1 := Apply(far, api.Vector{X: x, Y: "0", Z: "0"})
		direction, e2 := Direct(far, api.Vector{X: x, Y: "0", Z: "0"})
		if place != (api.Vector{}) || direction != place || e1 != api.ErrLimit || e2 != api.ErrLimit {
			t.Errorf("of %s: %v, %d, and %v, %d", x, place, e1, direction, e2)
		}
	}
	// Only on the way is this place too long.
	near := at([3]string{"2 -1 0", "0 1 0", "0 0 1"}, "0 0 0")
	near.Shift.X = "-" + most
	if place, e := Apply(near, api.Vector{X: most, Y: most, Z: "0"}); place != (api.Vector{X: "0", Y: most, Z: "0"}) || e != api.OK {
		t.Errorf("Apply = %v, %d", place, e)
	}
}

func TestCompose(t *testing.T) {
	shift, _ := Translation(v("1 2 3"))
	if a, e := Compose(quarter(), shift); a != at([3]string{"0 -1 0", "1 0 0", "0 0 1"}, "0 1 3") || e != api.OK {
		t.Errorf("Compose = %v, %d", a, e)
	}
	if a, e := Compose(shift, quarter()); a != at([3]string{"0 -1 0", "1 0 0", "0 0 1"}, "3 2 3") || e != api.OK {
		t.Errorf("Compose = %v, %d", a, e)
	}
	if a, e := Compose(at([3]string{"1 2 3", "0 1 1/2", "0 0 -1"}, "0 0 0"), at([3]string{"1 0 0", "1 1 0", "1 1 1"}, "0 0 0")); a != at([3]string{"6 5 3", "3/2 3/2 1/2", "-1 -1 -1"}, "0 0 0") || e != api.OK {
		t.Errorf("Compose = %v, %d", a, e)
	}
	for _, c := range [][2]api.Affine{{stretch("1", most, "1"), stretch("1", "11", "1")}, {stretch("1", "1", "1/"+most), stretch("1", "1", "1/7")}} {
		if a, e := Compose(c[0], c[1]); a != (api.Affine{}) || e != api.ErrLimit {
			t.Errorf("Compose of %v = %v, %d", c, a, e)
		}
	}
}

func TestIsIsometry(t *testing.T) {
	mirror := stretch("1", "1", "-1")
	tilted := at([3]string{"3/5 -4/5 0", "4/5 3/5 0", "0 0 1"}, "7 7 7")
	for _, a := range []api.Affine{Identity(), quarter(), mirror, tilted, at([3]string{"2/3 -1/3 2/3", "2/3 2/3 -1/3", "-1/3 2/3 2/3"}, "0 0 0")} {
		if is, e := IsIsometry(a); !is || e != api.OK {
			t.Errorf("IsIsometry(%v) = %t, %d", a, is, e)
		}
	}
	shear, _ := Shear(v("1 0 0"), v("0 0 2"))
	for _, a := range []api.Affine{shear, stretch("2", "1/2", "1"), stretch("1", "1", "0"), stretch("0", "0", "0"), stretch("1", "1", "99/100"), at([3]string{"1 0 0", "1 0 0", "0 0 1"}, "0 0 0"), at([3]string{"3/5 4/5 0", "4/5 3/5 0", "0 0 1"}, "0 0 0"), stretch(most, "1", "1")} {
		if is, e := IsIsometry(a); is || e != api.OK {
			t.Errorf("IsIsometry(%v) = %t, %d", a, is, e)
		}
	}
}

func TestPull(t *testing.T) {
	if p, e := Pull(quarter(), api.Plane{Normal: v("1 0 0"), Offset: "0"}); p != (api.Plane{Normal: v("0 -1 0"), Offset: "-2"}) || e != api.OK {
		t.Errorf("Pull = %v, %d", p, e)
	}
	if p, e := Pull(at([3]string{"1 2 0", "0 1 0", "0 0 1/2"}, "1 1 1"), api.Plane{Normal: v("1 1 4"), Offset: "10"}); p != (api.Plane{Normal: v("1 3 2"), Offset: "4"}) || e != api.OK {
		t.Errorf("Pull = %v, %d", p, e)
	}
	// Of a flat map a plane can be pulled, if it does not lie along what is left.
	flat := stretch("1", "1", "0")
	if p, e := Pull(flat, api.Plane{Normal: v("1 0 5"), Offset: "3"}); p != (api.Plane{Normal: v("1 0 0"), Offset: "3"}) || e != api.OK {
		t.Errorf("Pull = %v, %d", p, e)
	}
	if p, e := Pull(flat, up); p != (api.Plane{}) || e != api.ErrDependent {
		t.Errorf("Pull = %v, %d", p, e)
	}
	far := stretch("1", "1", most)
	if p, e := Pull(far, api.Plane{Normal: v("0 0 11"), Offset: "1"}); p != (api.Plane{}) || e != api.ErrLimit {
		t.Errorf("Pull = %v, %d", p, e)
	}
	far = Identity()
	far.Shift.Z = most
	if p, e := Pull(far, api.Plane{Normal: v("0 0 1"), Offset: "-1"}); p != (api.Plane{}) || e != api.ErrLimit {
		t.Errorf("Pull = %v, %d", p, e)
	}
}

// TestErrors hands wrong numbers to all functions with maps.
func TestErrors(t *testing.T) {
	level := api.Plane{Normal: zero, Offset: "1"}
	for _, x := range notRight {
		for _, a := range spoilt(x) {
			checkErrors(t, a)
		}
		bad := api.Vector{X: "1", Y: "1", Z: x}
		place, e1 := Apply(Identity(), bad)
		direction, e2 := Direct(Identity(), bad)
		if place != (api.Vector{}) || direction != place || e1 != api.ErrNumber || e2 != api.ErrNumber {
			t.Errorf("with %v: %d, %d", bad, e1, e2)
		}
		for _, p := range []api.Plane{{Normal: bad, Offset: "1"}, {Normal: zero, Offset: x}} {
			pulled, e1 := Pull(Identity(), p)
			pushed, e2 := Push(stretch("0", "0", "0"), p)
			if pulled != (api.Plane{}) || pushed != pulled || e1 != api.ErrNumber || e2 != api.ErrNumber {
				t.Errorf("with %v: %d, %d", p, e1, e2)
			}
		}
	}
	pulled, e1 := Pull(Identity(), level)
	pushed, e2 := Push(stretch("0", "0", "0"), level)
	if pulled != (api.Plane{}) || pushed != pulled || e1 != api.ErrZero || e2 != api.ErrZero {
		t.Errorf("with %v: %d, %d", level, e1, e2)
	}
}

// checkErrors expects ErrNumber for a map, before any other error.
func checkErrors(t *testing.T, a api.Affine) {
	t.Helper()
	place, e1 := Apply(a, zero)
	direction, e2 := Direct(a, zero)
	first, e3 := Compose(a, Identity())
	second, e4 := Compose(Identity(), a)
	inverse, e5 := Inverse(a)
	determinant, e6 := Determinant(a)
	is, e7 := IsIsometry(a)
	pulled, e8 := Pull(a, api.Plane{Normal: zero, Offset: "1"})
	pushed, e9 := Push(a, api.Plane{Normal: zero, Offset: "1"})
	fixed, free, found, e10 := Fixed(a)
	for i, e := range []api.Errno{e1, e2, e3, e4, e5, e6, e7, e8, e9, e10} {
		if e != api.ErrNumber {
			t.Errorf("%d: %d for %v", i, e, a)
		}
	}
	if place != (api.Vector{}) || direction != place || fixed != place || first != (api.Affine{}) || second != first || inverse != first || determinant != "" || is || pulled != (api.Plane{}) || pushed != pulled || free != nil || found {
		t.Errorf("results beside errors for %v", a)
	}
}
