package attitude_test

import (
	"math/rand"
	"testing"

	"klippe/api"
	"klippe/attitude"
	"klippe/integer"
	"klippe/rational"
	"klippe/samples"
)

var (
	most     = samples.Most()
	notRight = samples.NotRight()
)

func of(s string) api.Vector          { return samples.Vector(s) }
func point(s string) api.Point        { return samples.Point(s) }
func ratio(num, den int) api.Rational { x, _ := rational.Of(num, den); return x }

func opposite(n api.Vector) api.Vector {
	return api.Vector{X: rational.Neg(n.X), Y: rational.Neg(n.Y), Z: rational.Neg(n.Z)}
}

func anyNumber(r *rand.Rand) api.Rational { return ratio(r.Intn(9)-4, 1+r.Intn(2)*r.Intn(4)) }

func anyPoint(r *rand.Rand) api.Point { return api.Point{X: anyNumber(r), Y: anyNumber(r)} }

func anyVector(r *rand.Rand) api.Vector {
	return api.Vector{X: anyNumber(r), Y: anyNumber(r), Z: anyNumber(r)}
}

// anyNormal makes a vector that is not zero.
func anyNormal(r *rand.Rand) api.Vector {
	for {
		if n := anyVector(r); n != of("0 0 0") {
			return n
		}
	}
}

// anyDirection makes a point that is not 0 0.
func anyDirection(r *rand.Rand) api.Point {
	for {
		if d := anyPoint(r); d != point("0 0") {
			return d
		}
	}
}

// dot is the dot product of two directions.
func dot(a, b api.Point) api.Rational {
	return rational.Add(rational.Mul(a.X, b.X), rational.Mul(a.Y, b.Y))
}

// wrongVectors has vectors of which a number is not right; the others are 0.
func wrongVectors() []api.Vector {
	var l []api.Vector
	for _, x := range notRight {
		l = append(l, api.Vector{X: x, Y: "0", Z: "0"}, api.Vector{X: "0", Y: x, Z: "0"}, api.Vector{X: "0", Y: "0", Z: x})
	}
	return l
}

// wrongPoints has points of which a number is not right; the other one is 0.
func wrongPoints() []api.Point {
	var l []api.Point
	for _, x := range notRight {
		l = append(l, api.Point{X: x, Y: "0"}, api.Point{X: "0", Y: x})
	}
	return l
}

// normals has the functions of a single normal, each of which reports whether its result is a zero value.
func normals() map[string]func(n api.Vector) (bool, api.Errno) {
	is := func(f func(api.Vector) (bool, api.Errno)) func(n api.Vector) (bool, api.Errno) {
		return func(n api.Vector) (bool, api.Errno) { got, e := f(n); return !got, e }
	}
	at := func(f func(api.Vector) (api.Point, api.Errno)) func(n api.Vector) (bool, api.Errno) {
		return func(n api.Vector) (bool, api.Errno) { got, e := f(n); return got == api.Point{}, e }
	}
	return map[string]func(n api.Vector) (bool, api.Errno){
		"Overturned": is(attitude.Overturned), "Horizontal": is(attitude.Horizontal), "Vertical": is(attitude.Vertical),
		"Toward": at(attitude.Toward), "Strike": at(attitude.Strike), "Gradient": at(attitude.Gradient),
		"Steep":          func(n api.Vector) (bool, api.Errno) { got, e := attitude.Steep(n); return got == "", e },
		"first Flatter":  func(n api.Vector) (bool, api.Errno) { got, e := attitude.Flatter(n, of("0 0 x")); return got == 0, e },
		"second Flatter": func(n api.Vector) (bool, api.Errno) { got, e := attitude.Flatter(of("0 0 1"), n); return got == 0, e },
		"Height": func(n api.Vector) (bool, api.Errno) {
			got, e := attitude.Height(api.Plane{Normal: n, Offset: "x"}, point("x y"))
			return got == "", e
		},
		"Apparent": func(n api.Vector) (bool, api.Errno) {
			got, e := attitude.Apparent(n, point("x y"))
			return got == "", e
		},
	}
}

func TestNormalErrors(t *testing.T) {
	for name, f := range normals() {
		for _, n := range wrongVectors() {
			if isZero, e := f(n); !isZero || e != api.ErrNumber {
				t.Errorf("%s(%v): %t, %d", name, n, isZero, e)
			}
		}
		if isZero, e := f(of("0 0 0")); !isZero || e != api.ErrZero {
			t.Errorf("%s(0 0 0): %t, %d", name, isZero, e)
		}
	}
	if got, e := attitude.Flatter(of("0 0 0"), of("x 0 0")); got != 0 || e != api.ErrZero {
		t.Errorf("Flatter = %d, %d", got, e)
	}
}

func TestPlanes(t *testing.T) {
	for _, c := range []struct {
		n                                string
		overturned, horizontal, vertical bool
		toward, strike                   string
		steep                            api.Rational
	}{
		{"1 0 1", false, false, false, "1 0", "0 1", "1"},
		{"-1 0 -1", true, false, false, "1 0", "0 1", "1"},
		{"1 0 -1", true, false, false, "-1 0", "0 -1", "1"},
		{"0 1/2 1", false, false, false, "0 1", "-1 0", "1/4"},
		{"0 -3 1", false, false, false, "0 -1", "1 0", "9"},
		{"2/3 -1/2 5", false, false, false, "4 -3", "3 4", "1/36"},
		{"-6 -4 1/2", false, false, false, "-3 -2", "2 -3", "208"},
		{"-6 -4 -1/2", true, false, false, "3 2", "-2 3", "208"},
		{"4 2 0", false, false, true, "2 1", "-1 2", ""},
		{"-4 -2 0", false, false, true, "-2 -1", "1 -2", ""},
		{"0 0 7", false, true, false, "", "", "0"},
		{"0 0 -1/7", true, true, false, "", "", "0"},
	} {
		n := of(c.n)
		overturned, e1 := attitude.Overturned(n)
		horizontal, e2 := attitude.Horizontal(n)
		vertical, e3 := attitude.Vertical(n)
		if overturned != c.overturned || horizontal != c.horizontal || vertical != c.vertical || max(e1, e2, e3) != api.OK {
			t.Errorf("%s: %t, %t, %t, %d, %d, %d", c.n, overturned, horizontal, vertical, e1, e2, e3)
		}
		toward, e1 := attitude.Toward(n)
		strike, e2 := attitude.Strike(n)
		if c.horizontal {
			if toward != (api.Point{}) || strike != (api.Point{}) || e1 != api.ErrNone || e2 != api.ErrNone {
				t.Errorf("%s: %v, %v, %d, %d", c.n, toward, strike, e1, e2)
			}
		} else if toward != point(c.toward) || strike != point(c.strike) || max(e1, e2) != api.OK {
			t.Errorf("%s: %v, %v, %d, %d", c.n, toward, strike, e1, e2)
		}
		want := api.OK
		if c.vertical {
			want = api.ErrUnbounded
		}
		if steep, e := attitude.Steep(n); steep != c.steep || e != want {
			t.Errorf("Steep(%s) = %s, %d", c.n, steep, e)
		}
	}
}

func TestFlatter(t *testing.T) {
	for _, c := range []struct {
		m, n string
		want int
	}{
		{"0 0 1", "0 0 -5", 0}, {"0 0 1", "1 0 100", -1}, {"3 4 1", "0 5 1", 0}, {"3 4 -1", "0 5 1", 0}, {"3 4 1", "0 5 -2", 1},
		{"1 0 0", "0 1/2 0", 0}, {"1 0 0", "100 0 1", 1}, {"1 0 0", "0 0 1", 1}, {"1/2 0 1/3", "1/2 1/2 1/2", 1}, {"1/2 0 1/3", "3/2 0 1", 0},
	} {
		m, n := of(c.m), of(c.n)
		got, e := attitude.Flatter(m, n)
		back, e2 := attitude.Flatter(n, m)
		if got != c.want || back != -c.want || max(e, e2) != api.OK {
			t.Errorf("Flatter(%s, %s) = %d, %d, and %d, %d", c.m, c.n, got, e, back, e2)
		}
	}
	m, n := api.Vector{X: most, Y: most, Z: "1/" + most}, api.Vector{X: most, Y: most, Z: "2/" + most}
	if got, e := attitude.Flatter(m, n); got != 1 || e != api.OK {
		t.Errorf("Flatter = %d, %d", got, e)
	}
}

// TestPlaneLaws checks the consequences for any normals.
func TestPlaneLaws(t *testing.T) {
	r := rand.New(rand.NewSource(1))
	for range 2000 {
		n := anyNormal(r)
		toward, e := attitude.Toward(n)
		strike, _ := attitude.Strike(n)
		if e == api.ErrNone {
			if n.X != "0" || n.Y != "0" {
				t.Fatalf("Toward(%v): %d", n, e)
			}
			continue
		}
		up := n
		if rational.Sign(n.Z) < 0 {
			up = opposite(n)
		}
		// It has integers without a common divisor, and is a positive multiple.
		x, xDen := rational.Parts(toward.X)
		y, yDen := rational.Parts(toward.Y)
		across := rational.Sub(rational.Mul(up.X, toward.Y), rational.Mul(up.Y, toward.X))
		if xDen != "1" || yDen != "1" || integer.Gcd(x, y) != "1" || across != "0" || rational.Sign(dot(toward, api.Point{X: up.X, Y: up.Y})) != 1 || e != api.OK {
			t.Fatalf("Toward(%v) = %v, %d", n, toward, e)
		}
		if strike.X != rational.Neg(toward.Y) || strike.Y != toward.X {
			t.Fatalf("Strike(%v) = %v", n, strike)
		}
		if n.Z == "0" {
			continue
		}
		checkFalls(t, n, toward, strike)
	}
}

// checkFalls checks what falls along the directions of dip and strike, and that the opposite normal has the same ones.
func checkFalls(t *testing.T, n api.Vector, toward, strike api.Point) {
	t.Helper()
	along, e := attitude.Apparent(n, strike)
	down, e2 := attitude.Apparent(n, toward)
	if along != "0" || rational.Sign(down) != 1 || max(e, e2) != api.OK {
		t.Fatalf("%v falls by %s and %s", n, along, down)
	}
	gradient, _ := attitude.Gradient(n)
	steep, _ := attitude.Steep(n)
	if steep != dot(gradient, gradient) {
		t.Fatalf("Steep(%v) = %s", n, steep)
	}
	other := opposite(n)
	again, _ := attitude.Toward(other)
	line, _ := attitude.Strike(other)
	slope, _ := attitude.Gradient(other)
	if again != toward || line != strike || slope != gradient {
		t.Fatalf("%v has %v, %v, %v", other, again, line, slope)
	}
}

func TestFlatterLaws(t *testing.T) {
	r := rand.New(rand.NewSource(2))
	counts := map[int]int{}
	for range 1000 {
		m, n := anyNormal(r), anyNormal(r)
		got, e := attitude.Flatter(m, n)
		a, e1 := attitude.Steep(m)
		b, e2 := attitude.Steep(n)
		want := 0
		switch {
		case e1 == api.OK && e2 == api.OK:
			want = rational.Compare(a, b)
		case e1 == api.OK:
			want = -1
		case e2 == api.OK:
			want = 1
		}
		if got != want || e != api.OK {
			t.Fatalf("Flatter(%v, %v) = %d, %d", m, n, got, e)
		}
		counts[got]++
	}
	if counts[0] < 10 {
		t.Errorf("the results are %v", counts)
	}
}

// TestLongPlanes has results that are as long as numbers may be, or too long.
func TestLongPlanes(t *testing.T) {
	tiny := api.Rational("1/" + most)
	for _, c := range []struct {
		n              api.Vector
		toward, steep  api.Errno
		primitive      api.Point
		squaredTangent api.Rational
	}{
		{api.Vector{X: most, Y: "0", Z: most}, api.OK, api.OK, point("1 0"), "1"},
		{api.Vector{X: tiny, Y: "0", Z: tiny}, api.OK, api.OK, point("1 0"), "1"},
		{api.Vector{X: most, Y: "1", Z: "1"}, api.OK, api.ErrLimit, api.Point{X: most, Y: "1"}, ""},
		{api.Vector{X: most, Y: tiny, Z: "1"}, api.ErrLimit, api.ErrLimit, api.Point{}, ""},
		{api.Vector{X: tiny, Y: most, Z: "1"}, api.ErrLimit, api.ErrLimit, api.Point{}, ""},
		{api.Vector{X: "1", Y: "1", Z: most}, api.OK, api.ErrLimit, point("1 1"), ""},
		{api.Vector{X: tiny, Y: tiny, Z: "0"}, api.OK, api.ErrUnbounded, point("1 1"), ""},
		{api.Vector{X: most, Y: tiny, Z: "0"}, api.ErrLimit, api.ErrUnbounded, api.Point{}, ""},
		{api.Vector{X: "0", Y: "0", Z: most}, api.ErrNone, api.OK, api.Point{}, "0"},
	} {
		toward, e := attitude.Toward(c.n)
		if toward != c.primitive || e != c.toward {
			t.Errorf("Toward(%v) = %v, %d", c.n, toward, e)
		}
		if strike, e := attitude.Strike(c.n); e != c.toward || e != api.OK && strike != (api.Point{}) || e == api.OK && strike != (api.Point{X: rational.Neg(toward.Y), Y: toward.X}) {
			t.Errorf("Strike(%v) = %v, %d", c.n, strike, e)
		}
		if steep, e := attitude.Steep(c.n); steep != c.squaredTangent || e != c.steep {
			t.Errorf("Steep(%v) = %s, %d", c.n, steep, e)
		}
	}
}
