package vector

import (
	"math"
	"math/rand"
	"strings"
	"testing"

	"klippe/api"
	"klippe/integer"
	"klippe/rational"
	"klippe/samples"
)

var (
	most     = samples.Most()
	notRight = samples.NotRight()
)

// v reads a vector, p a point and l a line.
func v(s string) api.Vector { return samples.Vector(s) }

func p(s string) api.Point { return samples.Point(s) }

func l(s string) Line {
	n := v(s)
	return Line{n.X, n.Y, n.Z}
}

func plane(s string, offset api.Rational) api.Plane { return api.Plane{Normal: v(s), Offset: offset} }

// spoilt returns a vector with one wrong number, at each of the three places.
func spoilt(x api.Rational) []api.Vector {
	return []api.Vector{{X: x, Y: "1", Z: "1"}, {X: "1", Y: x, Z: "1"}, {X: "1", Y: "1", Z: x}}
}

func TestCheck(t *testing.T) {
	for _, a := range []api.Vector{zero, v("1 -1/2 7"), {X: most, Y: "-" + most, Z: "1/" + most}} {
		if e := Check(a); e != api.OK {
			t.Errorf("Check(%v) = %d", a, e)
		}
	}
	for _, x := range notRight {
		for _, a := range spoilt(x) {
			if e := Check(a); e != api.ErrNumber {
				t.Errorf("Check(%v) = %d", a, e)
			}
			if e := CheckPlane(api.Plane{Normal: a, Offset: "0"}); e != api.ErrNumber {
				t.Errorf("CheckPlane(%v) = %d", a, e)
			}
		}
		if e := CheckPoint(api.Point{X: x, Y: "1"}); e != api.ErrNumber {
			t.Errorf("CheckPoint(%s, 1) = %d", x, e)
		}
		if e := CheckPoint(api.Point{X: "1", Y: x}); e != api.ErrNumber {
			t.Errorf("CheckPoint(1, %s) = %d", x, e)
		}
		if e := CheckPlane(plane("0 0 0", x)); e != api.ErrNumber {
			t.Errorf("CheckPlane with the offset %s = %d", x, e)
		}
	}
	if e := CheckPoint(p("0 -1/3")); e != api.OK {
		t.Errorf("CheckPoint = %d", e)
	}
	if e := CheckPlane(plane("0 0 0", "1")); e != api.ErrZero {
		t.Errorf("CheckPlane = %d", e)
	}
	for _, s := range []string{"1 0 0", "0 -1 0", "0 0 1/2"} {
		if e := CheckPlane(plane(s, "0")); e != api.OK {
			t.Errorf("CheckPlane(%s) = %d", s, e)
		}
	}
}

func TestOfAndAt(t *testing.T) {
	if a := Of(-1, 0, 7); a != v("-1 0 7") {
		t.Errorf("Of = %v", a)
	}
	if a := Of(math.MinInt, math.MaxInt, 1); a != v("-9223372036854775808 9223372036854775807 1") {
		t.Errorf("Of = %v", a)
	}
	if a := At(math.MinInt, 3); a != p("-9223372036854775808 3") {
		t.Errorf("At = %v", a)
	}
}

func TestCalculation(t *testing.T) {
	for _, c := range []struct {
		a, b, sum, difference, cross string
		dot                          api.Rational
	}{
		{"1 0 0", "0 1 0", "1 1 0", "1 -1 0", "0 0 1", "0"},
		{"1 2 3", "4 5 6", "5 7 9", "-3 -3 -3", "-3 6 -3", "32"},
		{"1/2 -1/3 0", "1/2 1/3 2", "1 0 2", "0 -2/3 -2", "-2/3 -1 1/3", "5/36"},
		{"2 4 6", "-1 -2 -3", "1 2 3", "3 6 9", "0 0 0", "-28"},
	} {
		a, b := v(c.a), v(c.b)
		if s, e := Add(a, b); s != v(c.sum) || e != api.OK {
			t.Errorf("Add(%s, %s) = %v, %d", c.a, c.b, s, e)
		}
		if s, e := Sub(a, b); s != v(c.difference) || e != api.OK {
			t.Errorf("Sub(%s, %s) = %v, %d", c.a, c.b, s, e)
		}
		if s, e := Cross(a, b); s != v(c.cross) || e != api.OK {
			t.Errorf("Cross(%s, %s) = %v, %d", c.a, c.b, s, e)
		}
		if x, e := Dot(a, b); x != c.dot || e != api.OK {
			t.Errorf("Dot(%s, %s) = %s, %d", c.a, c.b, x, e)
		}
		if is, e := Parallel(a, b); is != (c.cross == "0 0 0") || e != api.OK {
			t.Errorf("Parallel(%s, %s) = %t, %d", c.a, c.b, is, e)
		}
	}
	if s, e := Scale(v("1/2 -3 0"), "-2/3"); s != v("-1/3 2 0") || e != api.OK {
		t.Errorf("Scale = %v, %d", s, e)
	}
}

func TestCalculationErrors(t *testing.T) {
	long := api.Vector{X: "1", Y: most, Z: "1"}
	for name, f := range map[string]func(a, b api.Vector) (api.Vector, api.Errno){
		"Add": Add, "Sub": func(a, b api.Vector) (api.Vector, api.Errno) { return Sub(a, v("-1 -1 -1")) }, "Cross": Cross,
		"Scale": func(a, b api.Vector) (api.Vector, api.Errno) { return Scale(a, "11") },
		"Dot": func(a, b api.Vector) (api.Vector, api.Errno) {
			x, e := Dot(a, b)
			return api.Vector{X: x}, e
		},
		"Spanned": func(a, b api.Vector) (api.Vector, api.Errno) {
			plane, e := Spanned(a, zero, Of(1, 2, 3))
			return plane.Normal, e
		},
	} {
		if s, e := f(long, v("1 1 2")); s != (api.Vector{}) || e != api.ErrLimit {
			t.Errorf("%s = %v, %d", name, s, e)
		}
	}
	for _, x := range notRight {
		if s, e := Scale(zero, x); s != (api.Vector{}) || e != api.ErrNumber {
			t.Errorf("Scale with %s = %v, %d", x, s, e)
		}
		for _, a := range spoilt(x) {
			for _, pair := range [][2]api.Vector{{a, zero}, {zero, a}} {
				b, c := pair[0], pair[1]
				sum, e1 := Add(b, c)
				difference, e2 := Sub(b, c)
				product, e3 := Cross(b, c)
				dot, e4 := Dot(b, c)
				is, e5 := Parallel(b, c)
				for i, e := range []api.Errno{e1, e2, e3, e4, e5} {
					if e != api.ErrNumber {
						t.Errorf("%d: %d for %v and %v", i, e, b, c)
					}
				}
				if sum != (api.Vector{}) || difference != sum || product != sum || dot != "" || is {
					t.Errorf("results beside errors for %v and %v", b, c)
				}
			}
			multiple, e1 := Scale(a, "0")
			is, e2 := IsZero(a)
			primitive, e3 := Primitive(a)
			if multiple != (api.Vector{}) || is || primitive != multiple || e1 != api.ErrNumber || e2 != api.ErrNumber || e3 != api.ErrNumber {
				t.Errorf("%d, %d, %d for %v", e1, e2, e3, a)
			}
		}
	}
}

func TestCancelled(t *testing.T) {
	// The products are too long, their sum is not.
	a := api.Vector{X: most, Y: most, Z: "1"}
	if x, e := Dot(a, api.Vector{X: most, Y: "-" + most, Z: "5"}); x != "5" || e != api.OK {
		t.Errorf("Dot = %s, %d", x, e)
	}
	if s, e := Cross(a, a); s != zero || e != api.OK {
		t.Errorf("Cross = %v, %d", s, e)
	}
	if is, e := Parallel(a, api.Vector{X: most, Y: most, Z: "2"}); is || e != api.OK {
		t.Errorf("Parallel = %t, %d", is, e)
	}
	if n, e := Turn(api.Point{X: most, Y: "0"}, api.Point{X: "0", Y: most}, api.Point{X: "-" + most, Y: "1"}); n != 1 || e != api.OK {
		t.Errorf("Turn = %d, %d", n, e)
	}
	if n, e := Side(api.Plane{Normal: a, Offset: "0"}, a); n != 1 || e != api.OK {
		t.Errorf("Side = %d, %d", n, e)
	}
}

func TestZeroAndPrimitive(t *testing.T) {
	for s, want := range map[string]bool{"0 0 0": true, "1 0 0": false, "0 -1/2 0": false, "0 0 1/3": false} {
		if is, e := IsZero(v(s)); is != want || e != api.OK {
			t.Errorf("IsZero(%s) = %t, %d", s, is, e)
		}
		if is, e := Parallel(v(s), zero); !is || e != api.OK {
			t.Errorf("Parallel(%s, 0 0 0) = %t, %d", s, is, e)
		}
	}
	for s, want := range map[string]string{"1/2 -1/3 0": "3 -2 0", "-4 6 10": "-2 3 5", "0 0 -7/3": "0 0 -1", "0 1/6 1/4": "0 2 3", "2/3 4/9 6/5": "15 10 27", "5 0 0": "1 0 0", "1 1 1": "1 1 1"} {
		if a, e := Primitive(v(s)); a != v(want) || e != api.OK {
			t.Errorf("Primitive(%s) = %v, %d", s, a, e)
		}
	}
	if a, e := Primitive(zero); a != (api.Vector{}) || e != api.ErrZero {
		t.Errorf("Primitive = %v, %d", a, e)
	}
	if a, e := Primitive(api.Vector{X: "1/" + most, Y: "1/7", Z: "1/13"}); a != (api.Vector{}) || e != api.ErrLimit {
		t.Errorf("Primitive = %v, %d", a, e)
	}
	if a, e := Primitive(api.Vector{X: "-1/" + most, Y: "5/" + most, Z: "0"}); a != v("-1 5 0") || e != api.OK {
		t.Errorf("Primitive = %v, %d", a, e)
	}
}

func TestTurnAndArea(t *testing.T) {
	for _, c := range []struct {
		a, b, c string
		area    api.Rational
	}{{"0 0", "4 0", "0 2", "8"}, {"0 0", "0 2", "4 0", "-8"}, {"0 0", "1 1", "2 2", "0"}, {"1/2 0", "1 1/3", "0 1/5", "4/15"}, {"1 1", "1 1", "5 7", "0"}} {
		want := rational.Sign(c.area)
		if n, e := Turn(p(c.a), p(c.b), p(c.c)); n != want || e != api.OK {
			t.Errorf("Turn(%s, %s, %s) = %d, %d", c.a, c.b, c.c, n, e)
		}
		if x, e := Area(p(c.a), p(c.b), p(c.c)); x != c.area || e != api.OK {
			t.Errorf("Area(%s, %s, %s) = %s, %d", c.a, c.b, c.c, x, e)
		}
	}
	if x, e := Area(At(0, 0), api.Point{X: most, Y: "0"}, At(0, 2)); x != "" || e != api.ErrLimit {
		t.Errorf("Area = %s, %d", x, e)
	}
}

func TestBetweenAndToward(t *testing.T) {
	for _, c := range []struct {
		a, b, p string
		want    bool
	}{
		{"0 0", "4 2", "2 1", true}, {"4 2", "0 0", "2 1", true}, {"0 0", "4 2", "0 0", true}, {"0 0", "4 2", "4 2", true}, {"0 0", "4 2", "6 3", false}, {"0 0", "4 2", "-2 -1", false}, {"0 0", "4 2", "2 2", false}, {"0 0", "4 2", "1/3 1/6", true},
		{"1 0", "1 5", "1 3", true}, {"1 0", "1 5", "1 6", false}, {"1 0", "1 5", "2 3", false}, {"0 2", "5 2", "3 2", true}, {"0 2", "5 2", "-1 2", false}, {"3 3", "3 3", "3 3", true}, {"3 3", "3 3", "3 4", false}, {"3 3", "3 3", "4 3", false},
	} {
		if is, e := Between(p(c.a), p(c.b), p(c.p)); is != c.want || e != api.OK {
			t.Errorf("Between(%s, %s, %s) = %t, %d", c.a, c.b, c.p, is, e)
		}
	}
	for k, want := range map[api.Rational]string{"0": "1 2", "1": "4 8", "1/3": "2 4", "-1": "-2 -4", "2": "7 14", "1/2": "5/2 5"} {
		if got, e := Toward(At(1, 2), At(4, 8), k); got != p(want) || e != api.OK {
			t.Errorf("Toward %s = %v, %d", k, got, e)
		}
	}
	if got, e := Toward(At(5, 5), At(5, 5), "7/3"); got != At(5, 5) || e != api.OK {
		t.Errorf("Toward = %v, %d", got, e)
	}
	if got, e := Toward(At(0, 0), At(0, 11), most); got != (api.Point{}) || e != api.ErrLimit {
		t.Errorf("Toward = %v, %d", got, e)
	}
	for _, x := range notRight {
		if got, e := Toward(At(0, 0), At(0, 0), x); got != (api.Point{}) || e != api.ErrNumber {
			t.Errorf("Toward %s = %v, %d", x, got, e)
		}
	}
}

func TestPointErrors(t *testing.T) {
	for _, x := range notRight {
		for i := range 6 {
			points := [3]api.Point{At(0, 0), At(0, 0), At(0, 0)}
			if i%2 == 0 {
				points[i/2].X = x
			} else {
				points[i/2].Y = x
			}
			a, b, c := points[0], points[1], points[2]
			n, e1 := Turn(a, b, c)
			area, e2 := Area(a, b, c)
			is, e3 := Between(a, b, c)
			if n != 0 || area != "" || is || e1 != api.ErrNumber || e2 != api.ErrNumber || e3 != api.ErrNumber {
				t.Errorf("%v: %d, %d, %d", points, e1, e2, e3)
			}
			line, e4 := Through(b, c)
			at, e5 := Toward(b, c, "0")
			k, found, e6 := Cut(l("1 0 0"), b, c)
			if i > 1 && (line != (Line{}) || at != (api.Point{}) || k != "" || found || e4 != api.ErrNumber || e5 != api.ErrNumber || e6 != api.ErrNumber) {
				t.Errorf("%v: %d, %d, %d", points, e4, e5, e6)
			}
		}
	}
}

// anyNumber makes a small number, often 0.
func anyNumber(r *rand.Rand) api.Rational {
	x, _ := rational.Of(r.Intn(9)-4, 1+r.Intn(3))
	return x
}

func anyVector(r *rand.Rand) api.Vector {
	return api.Vector{X: anyNumber(r), Y: anyNumber(r), Z: anyNumber(r)}
}

func anyPoint(r *rand.Rand) api.Point { return api.Point{X: anyNumber(r), Y: anyNumber(r)} }

func TestVectorLaws(t *testing.T) {
	r := rand.New(rand.NewSource(1))
	for range 1500 {
		a, b := anyVector(r), anyVector(r)
		one, _ := Dot(a, b)
		other, _ := Dot(b, a)
		product, _ := Cross(a, b)
		turned, _ := Cross(b, a)
		opposite, _ := Scale(turned, "-1")
		if one != other || product != opposite {
			t.Fatalf("%v and %v exchanged", a, b)
		}
		first, _ := Dot(product, a)
		second, _ := Dot(product, b)
		if first != "0" || second != "0" {
			t.Fatalf("the cross product of %v and %v is not perpendicular", a, b)
		}
		difference, _ := Sub(a, b)
		if sum, _ := Add(difference, b); sum != a {
			t.Fatalf("%v less %v and more", a, b)
		}
		primitive, e := Primitive(a)
		if a == zero {
			continue
		}
		divisor := integer.Gcd(api.Int(primitive.X), integer.Gcd(api.Int(primitive.Y), api.Int(primitive.Z)))
		along, _ := Parallel(primitive, a)
		same, _ := Dot(primitive, a)
		if e != api.OK || divisor != "1" || !along || rational.Sign(same) != 1 || strings.Contains(string(primitive.X+primitive.Y+primitive.Z), "/") {
			t.Fatalf("Primitive(%v) = %v", a, primitive)
		}
	}
}

func TestPointLaws(t *testing.T) {
	r := rand.New(rand.NewSource(2))
	for range 1500 {
		a, b, c, by := anyPoint(r), anyPoint(r), anyPoint(r), anyPoint(r)
		n, _ := Turn(a, b, c)
		around, _ := Turn(b, c, a)
		exchanged, _ := Turn(b, a, c)
		moved, _ := Turn(move(a, by), move(b, by), move(c, by))
		if n != around || n != -exchanged || n != moved {
			t.Fatalf("Turn of %v, %v and %v", a, b, c)
		}
		k, _ := rational.Of(r.Intn(7)-2, 3)
		at, _ := Toward(a, b, k)
		between, _ := Between(a, b, at)
		if inside := rational.Sign(k) >= 0 && rational.Compare(k, "1") <= 0; a != b && between != inside {
			t.Fatalf("%v is at %s from %v to %v, between: %t", at, k, a, b, between)
		}
		if line, e := Through(a, b); e == api.OK && (!on(line, a) || !on(line, b) || !on(line, at)) {
			t.Fatalf("Through(%v, %v) = %v", a, b, line)
		}
	}
}

func move(a, by api.Point) api.Point {
	return api.Point{X: rational.Add(a.X, by.X), Y: rational.Add(a.Y, by.Y)}
}

// on reports whether a point is on a line.
func on(l Line, p api.Point) bool {
	return rational.Add(rational.Mul(l.A, p.X), rational.Mul(l.B, p.Y)) == l.C
}
