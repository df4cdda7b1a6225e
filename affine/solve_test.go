package affine

import (
	"math/rand"
	"slices"
	"testing"

	"klippe/api"
	"klippe/rational"
	"klippe/vector"
)

// four makes four places.
func four(a, b, c, d string) [4]api.Vector { return [4]api.Vector{v(a), v(b), v(c), v(d)} }

func TestOf(t *testing.T) {
	corners := four("0 0 0", "1 0 0", "0 1 0", "0 0 1")
	if a, e := Of(corners, four("2 0 0", "2 1 0", "1 0 0", "2 0 1")); a != quarter() || e != api.OK {
		t.Errorf("Of = %v, %d", a, e)
	}
	if a, e := Of(four("1 1 1", "2 1 1", "1 3 1", "1 1 1/2"), four("0 0 0", "0 0 0", "1 0 0", "0 0 7")); a != at([3]string{"0 1/2 0", "0 0 0", "0 0 -14"}, "-1/2 0 14") || e != api.OK {
		t.Errorf("Of = %v, %d", a, e)
	}
	for _, from := range [][4]api.Vector{four("0 0 0", "1 0 0", "0 1 0", "1 1 0"), four("1 1 1", "1 1 1", "0 1 0", "0 0 1"), four("0 0 0", "1 2 3", "2 4 6", "0 0 1"), four("1 0 0", "0 1 0", "0 0 1", "1/3 1/3 1/3"), {zero, zero, zero, zero}, {zero, {X: most, Y: "0", Z: "0"}, {X: "0", Y: most, Z: "0"}, {X: "1/11", Y: "1/13", Z: "0"}}} {
		for _, to := range [][4]api.Vector{corners, from, {{X: most, Y: "0", Z: "0"}, v("1/11 0 0"), zero, zero}} {
			if a, e := Of(from, to); a != (api.Affine{}) || e != api.ErrDependent {
				t.Errorf("Of(%v, %v) = %v, %d", from, to, a, e)
			}
		}
	}
	near := four("0 0 0", "1/11 0 0", "0 1 0", "0 0 1")
	if a, e := Of(near, [4]api.Vector{zero, {X: "0", Y: most, Z: "0"}, zero, zero}); a != (api.Affine{}) || e != api.ErrLimit {
		t.Errorf("Of = %v, %d", a, e)
	}
	for _, x := range notRight {
		for i := range 8 {
			places := [2][4]api.Vector{corners, corners}
			if i < 4 {
				places[1] = [4]api.Vector{}
			}
			places[i/4][i%4].Z = x
			if a, e := Of(places[0], places[1]); a != (api.Affine{}) || e != api.ErrNumber {
				t.Errorf("Of(%v) = %v, %d", places, a, e)
			}
		}
	}
}

func TestDeterminant(t *testing.T) {
	shear, _ := Shear(v("1 2 -1"), v("1/2 0 1/2"))
	shift, _ := Translation(v("1 2 3"))
	for _, c := range []struct {
		a    api.Affine
		want api.Rational
	}{{Identity(), "1"}, {quarter(), "1"}, {shear, "1"}, {shift, "1"}, {stretch("2", "1/3", "-5"), "-10/3"}, {stretch("1", "0", "1"), "0"}, {at([3]string{"1 2 3", "4 5 6", "7 8 10"}, "1 1 1"), "-3"}, {stretch(most, "1/"+most, most), most}} {
		if d, e := Determinant(c.a); d != c.want || e != api.OK {
			t.Errorf("Determinant(%v) = %s, %d", c.a, d, e)
		}
	}
	if d, e := Determinant(stretch(most, "11", "1")); d != "" || e != api.ErrLimit {
		t.Errorf("Determinant = %s, %d", d, e)
	}
}

func TestInverse(t *testing.T) {
	for _, c := range []struct{ a, want api.Affine }{
		{Identity(), Identity()}, {quarter(), at([3]string{"0 1 0", "-1 0 0", "0 0 1"}, "0 2 0")}, {stretch("2", "-1/3", "1"), stretch("1/2", "-3", "1")}, {at([3]string{"1 2 0", "3 4 0", "0 0 1"}, "1 0 -5"), at([3]string{"-2 1 0", "3/2 -1/2 0", "0 0 1"}, "2 -3/2 5")},
	} {
		if a, e := Inverse(c.a); a != c.want || e != api.OK {
			t.Errorf("Inverse(%v) = %v, %d", c.a, a, e)
		}
	}
	for _, a := range []api.Affine{stretch("1", "0", "1"), stretch("0", "0", "0"), at([3]string{"1 2 3", "4 5 6", "7 8 9"}, "1 1 1")} {
		if back, e := Inverse(a); back != (api.Affine{}) || e != api.ErrDependent {
			t.Errorf("Inverse(%v) = %v, %d", a, back, e)
		}
	}
	// Once the rows are too long, and once the shift alone.
	far := stretch("1/11", "1", "1")
	far.Shift.X = most
	for _, a := range []api.Affine{skew(), far} {
		if back, e := Inverse(a); back != (api.Affine{}) || e != api.ErrLimit {
			t.Errorf("Inverse(%v) = %v, %d", a, back, e)
		}
	}
}

// skew is a map whose inverse has rows that are too long.
func skew() api.Affine {
	a := Identity()
	a.Rows[0] = api.Vector{X: most, Y: "1/7", Z: "0"}
	a.Rows[1] = api.Vector{X: "1/" + most, Y: "3", Z: "0"}
	return a
}

func TestPush(t *testing.T) {
	if p, e := Push(quarter(), api.Plane{Normal: v("0 -1 0"), Offset: "-2"}); p != (api.Plane{Normal: v("1 0 0"), Offset: "0"}) || e != api.OK {
		t.Errorf("Push = %v, %d", p, e)
	}
	if p, e := Push(stretch("1", "1", "2"), up); p != (api.Plane{Normal: v("0 0 1/2"), Offset: "1"}) || e != api.OK {
		t.Errorf("Push = %v, %d", p, e)
	}
	for _, a := range []api.Affine{stretch("1", "1", "0"), stretch("0", "1", "1"), stretch("0", "0", "0")} {
		if p, e := Push(a, up); p != (api.Plane{}) || e != api.ErrDependent {
			t.Errorf("Push(%v) = %v, %d", a, p, e)
		}
	}
	// A system with many solutions that are too long is still a dependent one.
	if p, e := Push(stretch("1/11", "0", "1"), api.Plane{Normal: api.Vector{X: most, Y: "0", Z: "0"}, Offset: "1"}); p != (api.Plane{}) || e != api.ErrDependent {
		t.Errorf("Push = %v, %d", p, e)
	}
	if p, e := Push(stretch("1", "1", "1/"+most), api.Plane{Normal: v("0 0 11"), Offset: "1"}); p != (api.Plane{}) || e != api.ErrLimit {
		t.Errorf("Push = %v, %d", p, e)
	}
	far := Identity()
	far.Shift.Z = most
	if p, e := Push(far, up); p != (api.Plane{}) || e != api.ErrLimit {
		t.Errorf("Push = %v, %d", p, e)
	}
}

// TestPushWithoutInverse pushes a plane by a map whose inverse is too long.
func TestPushWithoutInverse(t *testing.T) {
	if p, e := Push(skew(), api.Plane{Normal: skew().Rows[0], Offset: "5"}); p != (api.Plane{Normal: v("1 0 0"), Offset: "5"}) || e != api.OK {
		t.Errorf("Push = %v, %d", p, e)
	}
}

func TestFixed(t *testing.T) {
	double := stretch("2", "2", "2")
	double.Shift = v("1 2 3")
	shear, _ := Shear(v("1 0 0"), v("0 0 2"))
	shear.Shift = v("0 0 4")
	for _, c := range []struct {
		a     api.Affine
		place string
		free  []string
	}{
		{quarter(), "1 1 0", []string{"0 0 1"}}, {Identity(), "0 0 0", []string{"1 0 0", "0 1 0", "0 0 1"}}, {double, "-1 -2 -3", nil}, {shear, "-2 0 0", []string{"0 1 0", "0 0 1"}}, {stretch("0", "0", "0"), "0 0 0", nil},
		{at([3]string{"2 1 1", "0 1 0", "0 0 1"}, "3 0 0"), "-3 0 0", []string{"-1 1 0", "-1 0 1"}}, {at([3]string{"1 0 0", "0 3 1", "0 0 1"}, "0 1 0"), "0 -1/2 0", []string{"1 0 0", "0 -1/2 1"}},
	} {
		var want []api.Vector
		for _, s := range c.free {
			want = append(want, v(s))
		}
		if place, free, found, e := Fixed(c.a); place != v(c.place) || !slices.Equal(free, want) || !found || e != api.OK {
			t.Errorf("Fixed(%v) = %v, %v, %t, %d", c.a, place, free, found, e)
		}
	}
	shift, _ := Translation(v("0 0 1"))
	for _, a := range []api.Affine{shift, at([3]string{"0 -1 0", "1 0 0", "0 0 1"}, "2 0 1/2"), {Rows: shear.Rows, Shift: v("1 0 4")}, {Rows: [3]api.Vector{{X: "12/11", Y: "0", Z: "0"}, v("0 1 0"), v("0 0 1")}, Shift: api.Vector{X: most, Y: "1", Z: "0"}}} {
		if place, free, found, e := Fixed(a); place != (api.Vector{}) || free != nil || found || e != api.OK {
			t.Errorf("Fixed(%v) = %v, %v, %t, %d", a, place, free, found, e)
		}
	}
	// Once the place is too long, and once a direction.
	for _, a := range []api.Affine{{Rows: stretch("12/11", "2", "2").Rows, Shift: api.Vector{X: most, Y: "1", Z: "1"}}, {Rows: [3]api.Vector{{X: "12/11", Y: most, Z: "0"}, v("0 1 0"), v("0 0 1")}, Shift: zero}} {
		if place, free, found, e := Fixed(a); place != (api.Vector{}) || free != nil || found || e != api.ErrLimit {
			t.Errorf("Fixed(%v) = %v, %v, %t, %d", a, place, free, found, e)
		}
	}
	// A number of the rows less 1 is too long, the place is not.
	far := stretch("-"+most, "2", "2")
	far.Shift = api.Vector{X: rational.Add(most, "1")[:200], Y: "0", Z: "0"}
	if place, free, found, e := Fixed(far); place != v("1/10 0 0") || free != nil || !found || e != api.OK {
		t.Errorf("Fixed = %v, %v, %t, %d", place, free, found, e)
	}
}

func TestLaws(t *testing.T) {
	r := rand.New(rand.NewSource(1))
	for range 1500 {
		a, b, c := anyMap(r), anyMap(r), anyMap(r)
		first, _ := Compose(a, b)
		second, _ := Compose(b, c)
		one, _ := Compose(first, c)
		other, _ := Compose(a, second)
		p := anyVector(r)
		moved, _ := Apply(b, p)
		both, _ := Apply(a, moved)
		if at, _ := Apply(first, p); one != other || at != both {
			t.Fatalf("Compose of %v, %v and %v", a, b, c)
		}
		from, _ := Determinant(a)
		to, _ := Determinant(b)
		if d, _ := Determinant(first); d != rational.Mul(from, to) {
			t.Fatalf("the determinants of %v, %v and both: %s, %s, %s", a, b, from, to, d)
		}
		checkBack(t, r, a, from)
		checkFixed(t, r, a)
		checkPlaces(t, r, a, from)
	}
}

// checkBack looks at the inverse, and at planes, of a map with a determinant.
func checkBack(t *testing.T, r *rand.Rand, a api.Affine, determinant api.Rational) {
	t.Helper()
	plane := api.Plane{Normal: anyVector(r), Offset: anyNumber(r)}
	if plane.Normal == zero {
		plane = up
	}
	pulled, e := Pull(a, plane)
	for p := anyVector(r); e == api.OK; p = anyVector(r) {
		moved, _ := Apply(a, p)
		beyond, _ := vector.Side(plane, moved)
		if side, _ := vector.Side(pulled, p); side != beyond {
			t.Fatalf("%v is pulled by %v to %v", plane, a, pulled)
		}
		if r.Intn(3) == 0 {
			break
		}
	}
	inverse, e1 := Inverse(a)
	_, e2 := Push(a, plane)
	if determinant == "0" {
		if e1 != api.ErrDependent || e2 != api.ErrDependent {
			t.Fatalf("of %v, which is singular: %d, %d", a, e1, e2)
		}
		return
	}
	one, _ := Compose(a, inverse)
	other, _ := Compose(inverse, a)
	pushed, _ := Push(a, pulled)
	byInverse, _ := Pull(inverse, pulled)
	if one != Identity() || other != Identity() || pushed != plane || byInverse != plane || e1 != api.OK || e2 != api.OK || e != api.OK {
		t.Fatalf("%v has the inverse %v; %v is pulled to %v, and pushed back to %v", a, inverse, plane, pulled, pushed)
	}
}

// checkFixed looks at what a map keeps.
func checkFixed(t *testing.T, r *rand.Rand, a api.Affine) {
	t.Helper()
	if r.Intn(2) == 0 {
		a.Rows[0] = v("1 0 0")
	}
	p := anyVector(r)
	if r.Intn(2) == 0 {
		// This map keeps p.
		moved, _ := Direct(a, p)
		a.Shift, _ = vector.Sub(p, moved)
	}
	place, free, found, e := Fixed(a)
	if at, _ := Apply(a, p); e != api.OK || at == p && !found {
		t.Fatalf("Fixed(%v) = %v, %v, %t, %d", a, place, free, found, e)
	}
	if !found {
		return
	}
	for _, direction := range free {
		way, _ := vector.Scale(direction, anyNumber(r))
		place, _ = vector.Add(place, way)
	}
	if at, _ := Apply(a, place); at != place {
		t.Fatalf("Fixed(%v) = %v, %v", a, place, free)
	}
}

// checkPlaces finds a map again by four places.
func checkPlaces(t *testing.T, r *rand.Rand, a api.Affine, determinant api.Rational) {
	t.Helper()
	from := [4]api.Vector{anyVector(r), anyVector(r), anyVector(r), anyVector(r)}
	var to [4]api.Vector
	for i, p := range from {
		to[i], _ = Apply(a, p)
	}
	flat := rational.Sign(volume(from)) == 0
	got, e := Of(from, to)
	if flat && e != api.ErrDependent || !flat && got != a {
		t.Fatalf("Of(%v, %v) = %v, %d", from, to, got, e)
	}
	if volume(to) != rational.Mul(determinant, volume(from)) {
		t.Fatalf("the determinant of %v is %s", a, determinant)
	}
}

// volume returns six times the volume of four places.
func volume(l [4]api.Vector) api.Rational {
	var ways [3]api.Vector
	for i := range ways {
		ways[i], _ = vector.Sub(l[i+1], l[0])
	}
	across, _ := vector.Cross(ways[0], ways[1])
	product, _ := vector.Dot(across, ways[2])
	return product
}

func TestIsometryLaw(t *testing.T) {
	r := rand.New(rand.NewSource(2))
	turns := []api.Affine{quarter(), stretch("1", "1", "-1"), at([3]string{"3/5 -4/5 0", "4/5 3/5 0", "0 0 1"}, "7 7 7"), at([3]string{"2/3 -1/3 2/3", "2/3 2/3 -1/3", "-1/3 2/3 2/3"}, "0 0 0")}
	a := Identity()
	for range 40 {
		a, _ = Compose(a, turns[r.Intn(len(turns))])
		is, e := IsIsometry(a)
		if d, _ := Determinant(a); !is || e != api.OK || d != "1" && d != "-1" {
			t.Fatalf("IsIsometry(%v) = %t, %d; the determinant is %s", a, is, e, d)
		}
	}
}
