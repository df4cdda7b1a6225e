package vector

import (
	"math/rand"
	"testing"

	"klippe/api"
	"klippe/rational"
)

func TestThrough(t *testing.T) {
	for _, c := range []struct{ a, b, line string }{{"0 0", "2 1", "-1 2 0"}, {"2 1", "0 0", "1 -2 0"}, {"1 1", "1 3", "-2 0 -2"}, {"1/2 3", "0 3", "0 -1/2 -3/2"}} {
		if line, e := Through(p(c.a), p(c.b)); line != l(c.line) || e != api.OK {
			t.Errorf("Through(%s, %s) = %v, %d", c.a, c.b, line, e)
		}
	}
	if line, e := Through(p("1 2"), p("1 2")); line != (Line{}) || e != api.ErrZero {
		t.Errorf("Through = %v, %d", line, e)
	}
	if line, e := Through(api.Point{X: most, Y: "5"}, At(3, -6)); line != (Line{}) || e != api.ErrLimit {
		t.Errorf("Through = %v, %d", line, e)
	}
}

func TestMeet(t *testing.T) {
	for _, c := range []struct{ a, b, at string }{{"1 0 3", "0 1 4", "3 4"}, {"1 1 2", "1 -1 0", "1 1"}, {"2 3 1", "4 -1 1/2", "5/28 3/14"}, {"0 2 1", "5 0 0", "0 1/2"}} {
		for _, lines := range [][2]Line{{l(c.a), l(c.b)}, {l(c.b), l(c.a)}} {
			if at, found, e := Meet(lines[0], lines[1]); at != p(c.at) || !found || e != api.OK {
				t.Errorf("Meet(%s, %s) = %v, %t, %d", c.a, c.b, at, found, e)
			}
		}
	}
	for _, c := range [][2]string{{"1 2 3", "2 4 6"}, {"1 2 3", "2 4 7"}, {"1 2 3", "-1/2 -1 0"}, {"0 1 1", "0 1 2"}, {"3 0 0", "1 0 0"}} {
		if at, found, e := Meet(l(c[0]), l(c[1])); at != (api.Point{}) || found || e != api.OK {
			t.Errorf("Meet(%s, %s) = %v, %t, %d", c[0], c[1], at, found, e)
		}
	}
	if at, found, e := Meet(Line{"1", most, "0"}, Line{most, "1", "1"}); at != (api.Point{}) || found || e != api.ErrLimit {
		t.Errorf("Meet = %v, %t, %d", at, found, e)
	}
}

func TestLineErrors(t *testing.T) {
	right, empty := l("1 0 0"), l("0 0 1")
	check := func(e, want api.Errno, rest ...any) {
		t.Helper()
		if e != want {
			t.Errorf("%d, not %d, for %v", e, want, rest)
		}
	}
	for _, x := range notRight {
		for _, spoilt := range []Line{{x, "1", "1"}, {"1", x, "1"}, {"0", "0", x}} {
			at, found, e := Meet(spoilt, empty)
			check(e, api.ErrNumber, spoilt)
			at2, found2, e := Meet(right, spoilt)
			check(e, api.ErrNumber, spoilt)
			_, _, e = Meet(empty, spoilt)
			check(e, api.ErrZero, spoilt)
			k, found3, e := Cut(spoilt, At(0, 0), At(1, 1))
			check(e, api.ErrNumber, spoilt)
			if at != (api.Point{}) || at2 != at || found || found2 || found3 || k != "" {
				t.Errorf("results beside errors for %v", spoilt)
			}
		}
		k, found, e := Cut(empty, api.Point{X: x, Y: x}, At(1, 1))
		check(e, api.ErrZero, k, found)
	}
	_, _, e := Meet(right, empty)
	check(e, api.ErrZero)
}

func TestCut(t *testing.T) {
	for _, c := range []struct {
		line, a, b string
		k          api.Rational
		found      bool
	}{
		{"1 0 2", "0 0", "8 5", "1/4", true}, {"1 0 2", "8 5", "0 0", "3/4", true}, {"1 0 2", "2 0", "8 5", "0", true}, {"1 0 2", "8 5", "2 0", "1", true},
		{"1 0 2", "3 0", "8 5", "", false}, {"1 0 2", "0 0", "1 9", "", false}, {"1 0 2", "2 0", "2 5", "", false}, {"1 0 2", "2 0", "2 0", "", false}, {"1 0 2", "3 0", "3 0", "", false}, {"1 0 2", "3 0", "3 1", "", false},
		{"-1/2 1/3 1/6", "0 0", "0 1", "1/2", true}, {"-1 2 0", "0 0", "0 1", "0", true},
	} {
		if k, found, e := Cut(l(c.line), p(c.a), p(c.b)); k != c.k || found != c.found || e != api.OK {
			t.Errorf("Cut(%s, %s, %s) = %s, %t, %d", c.line, c.a, c.b, k, found, e)
		}
	}
	if k, found, e := Cut(Line{most, "7", "3"}, At(0, 0), api.Point{X: "1", Y: most}); k != "" || found || e != api.ErrLimit {
		t.Errorf("Cut = %s, %t, %d", k, found, e)
	}
}

func TestSide(t *testing.T) {
	for s, want := range map[string]int{"0 0 0": -1, "1 0 0": 0, "1/2 0 1/2": 0, "2 9 0": 1, "1 5 1/1000": 1, "1 5 -1/1000": -1} {
		if n, e := Side(plane("1 0 1", "1"), v(s)); n != want || e != api.OK {
			t.Errorf("Side(%s) = %d, %d", s, n, e)
		}
	}
	if n, e := Side(plane("0 -2 0", "-1/3"), v("5 1/7 0")); n != 1 || e != api.OK {
		t.Errorf("Side = %d, %d", n, e)
	}
}

func TestSpanned(t *testing.T) {
	for _, c := range []struct {
		a, b, c, normal string
		offset          api.Rational
	}{{"1 0 0", "0 1 0", "0 0 1", "1 1 1", "1"}, {"0 0 5", "1 0 5", "0 1 5", "0 0 1", "5"}, {"0 0 5", "0 1 5", "1 0 5", "0 0 -1", "-5"}, {"1/2 0 0", "1/2 1 0", "1/2 0 1/3", "1/3 0 0", "1/6"}} {
		if got, e := Spanned(v(c.a), v(c.b), v(c.c)); got != plane(c.normal, c.offset) || e != api.OK {
			t.Errorf("Spanned(%s, %s, %s) = %v, %d", c.a, c.b, c.c, got, e)
		}
	}
	for _, c := range [][3]string{{"1 2 3", "1 2 3", "0 0 0"}, {"0 0 0", "1 2 3", "2 4 6"}, {"0 0 0", "1 2 3", "1 2 3"}, {"1 1 1", "1 1 1", "1 1 1"}} {
		if got, e := Spanned(v(c[0]), v(c[1]), v(c[2])); got != (api.Plane{}) || e != api.ErrDependent {
			t.Errorf("Spanned of %v = %v, %d", c, got, e)
		}
	}
	if got, e := Spanned(api.Vector{X: "0", Y: "0", Z: most}, v("3 0 5"), v("0 4 5")); got != (api.Plane{}) || e != api.ErrLimit {
		t.Errorf("Spanned = %v, %d", got, e)
	}
}

func TestCommon(t *testing.T) {
	for _, c := range []struct {
		p, q         string
		a, b         api.Rational
		place, along string
	}{
		{"0 0 1", "1 0 1", "0", "1", "1 0 0", "0 1 0"},
		{"0 1 0", "0 0 1", "2", "3", "0 2 3", "1 0 0"},
		{"1 0 0", "0 1 0", "2", "3", "2 3 0", "0 0 1"},
		{"1 0 0", "0 0 1", "2", "3", "2 0 3", "0 -1 0"},
		{"1 1 1", "1 -1 2", "6", "1", "0 11/3 7/3", "3 -1 -2"},
	} {
		place, along, e := Common(plane(c.p, c.a), plane(c.q, c.b))
		if place != v(c.place) || along != v(c.along) || e != api.OK {
			t.Errorf("Common(%s, %s) = %v, %v, %d", c.p, c.q, place, along, e)
		}
	}
	for _, c := range [][2]string{{"1 2 3", "1 2 3"}, {"1 2 3", "-1/2 -1 -3/2"}, {"0 0 1", "0 0 5"}} {
		place, along, e := Common(plane(c[0], "1"), plane(c[1], "7"))
		if place != (api.Vector{}) || along != place || e != api.ErrNone {
			t.Errorf("Common of %v = %v, %v, %d", c, place, along, e)
		}
	}
	// Once the direction is too long, and once the place is.
	for _, q := range []api.Plane{{Normal: api.Vector{X: "0", Y: most, Z: "11"}, Offset: "0"}, {Normal: v("0 1/3 5"), Offset: most}} {
		place, along, e := Common(plane("11 3 0", "7"), q)
		if place != (api.Vector{}) || along != place || e != api.ErrLimit {
			t.Errorf("Common = %v, %v, %d", place, along, e)
		}
	}
}

func TestPierce(t *testing.T) {
	for _, c := range []struct {
		from, along string
		k           api.Rational
		e           api.Errno
	}{{"0 0 0", "1 0 0", "1", api.OK}, {"0 0 0", "1 5 1", "1/2", api.OK}, {"2 0 0", "3 0 0", "-1/3", api.OK}, {"1/2 9 1/2", "0 0 -1", "0", api.OK}, {"0 0 0", "0 1 0", "", api.ErrNone}, {"1 0 0", "1 0 -1", "", api.ErrNone}, {"1 0 0", "0 0 0", "", api.ErrNone}} {
		if k, e := Pierce(plane("1 0 1", "1"), v(c.from), v(c.along)); k != c.k || e != c.e {
			t.Errorf("Pierce(%s, %s) = %s, %d", c.from, c.along, k, e)
		}
	}
	if k, e := Pierce(plane("1 0 0", most), v("-1 0 0"), v("1 0 0")); k != "" || e != api.ErrLimit {
		t.Errorf("Pierce = %s, %d", k, e)
	}
}

func TestPlaneErrors(t *testing.T) {
	right, flat := plane("1 0 1", "1"), plane("0 0 0", "1")
	for _, x := range notRight {
		for i, a := range spoilt(x) {
			bad := api.Plane{Normal: a, Offset: "0"}
			n1, e1 := Side(flat, a)
			n2, e2 := Side(right, a)
			n3, e3 := Side(bad, zero)
			if n1 != 0 || n2 != 0 || n3 != 0 || e1 != api.ErrZero || e2 != api.ErrNumber || e3 != api.ErrNumber {
				t.Errorf("Side with %v: %d, %d, %d", a, e1, e2, e3)
			}
			places := [3]api.Vector{zero, zero, zero}
			places[i] = a
			if got, e := Spanned(places[0], places[1], places[2]); got != (api.Plane{}) || e != api.ErrNumber {
				t.Errorf("Spanned with %v: %d", a, e)
			}
			_, _, e1 = Common(bad, flat)
			_, _, e2 = Common(right, bad)
			_, _, e3 = Common(flat, bad)
			if e1 != api.ErrNumber || e2 != api.ErrNumber || e3 != api.ErrZero {
				t.Errorf("Common with %v: %d, %d, %d", bad, e1, e2, e3)
			}
			k1, e1 := Pierce(bad, zero, zero)
			k2, e2 := Pierce(right, a, zero)
			k3, e3 := Pierce(right, zero, a)
			k4, e4 := Pierce(flat, a, zero)
			if k1+k2+k3+k4 != "" || e1 != api.ErrNumber || e2 != api.ErrNumber || e3 != api.ErrNumber || e4 != api.ErrZero {
				t.Errorf("Pierce with %v: %d, %d, %d, %d", a, e1, e2, e3, e4)
			}
		}
	}
	if place, along, e := Common(right, flat); place != (api.Vector{}) || along != place || e != api.ErrZero {
		t.Errorf("Common: %d", e)
	}
}

func TestPlaneLaws(t *testing.T) {
	r := rand.New(rand.NewSource(3))
	for range 1500 {
		a, b, c := anyVector(r), anyVector(r), anyVector(r)
		spanned, e := Spanned(a, b, c)
		for _, at := range []api.Vector{a, b, c} {
			if n, _ := Side(spanned, at); e == api.OK && n != 0 {
				t.Fatalf("%v is at the side %d of %v", at, n, spanned)
			}
		}
		p, q := api.Plane{Normal: a, Offset: anyNumber(r)}, api.Plane{Normal: b, Offset: anyNumber(r)}
		if place, along, e := Common(p, q); e == api.OK {
			checkCommon(t, p, q, place, along)
		}
		k, e := Pierce(p, b, c)
		if e != api.OK {
			continue
		}
		way, _ := Scale(c, k)
		at, _ := Add(b, way)
		if n, _ := Side(p, at); n != 0 {
			t.Fatalf("Pierce(%v, %v, %v) = %s", p, b, c, k)
		}
	}
}

// checkCommon goes along a line that two planes have in common.
func checkCommon(t *testing.T, p, q api.Plane, place, along api.Vector) {
	t.Helper()
	further, _ := Add(place, along)
	for _, at := range []api.Vector{place, further} {
		first, _ := Side(p, at)
		second, _ := Side(q, at)
		if first != 0 || second != 0 {
			t.Fatalf("%v is not on %v and %v", at, p, q)
		}
	}
	if along.X != "0" && place.X != "0" || along.X == "0" && along.Y != "0" && place.Y != "0" || along.X == "0" && along.Y == "0" && place.Z != "0" {
		t.Fatalf("the place of %v and %v is %v", p, q, place)
	}
}

func TestLineLaws(t *testing.T) {
	r := rand.New(rand.NewSource(4))
	for range 1500 {
		a, b := anyPoint(r), anyPoint(r)
		first, second := Line{anyNumber(r), anyNumber(r), anyNumber(r)}, Line{anyNumber(r), anyNumber(r), anyNumber(r)}
		if at, found, e := Meet(first, second); e == api.OK && found && (!on(first, at) || !on(second, at)) {
			t.Fatalf("Meet(%v, %v) = %v", first, second, at)
		}
		k, found, e := Cut(first, a, b)
		if e != api.OK {
			continue
		}
		at, _ := Toward(a, b, k)
		if found && (!on(first, at) || rational.Sign(k) < 0 || rational.Compare(k, "1") > 0) {
			t.Fatalf("Cut(%v, %v, %v) = %s", first, a, b, k)
		}
		if on(first, a) != on(first, b) && !found || on(first, a) && on(first, b) && found {
			t.Fatalf("Cut(%v, %v, %v) = %s, %t", first, a, b, k, found)
		}
	}
}
