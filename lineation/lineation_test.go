package lineation_test

import (
	"cmp"
	"math/rand"
	"testing"

	"klippe/api"
	"klippe/integer"
	"klippe/lineation"
	"klippe/rational"
	"klippe/samples"
	"klippe/vector"
)

var (
	most = samples.Most()
	tiny = "1/" + most
)

func of(s string) api.Vector          { return samples.Vector(s) }
func ratio(num, den int) api.Rational { x, _ := rational.Of(num, den); return x }

func times(k api.Rational, v api.Vector) api.Vector {
	return api.Vector{X: rational.Mul(k, v.X), Y: rational.Mul(k, v.Y), Z: rational.Mul(k, v.Z)}
}

func dot(u, v api.Vector) api.Rational {
	return rational.Sum(rational.Mul(u.X, v.X), rational.Mul(u.Y, v.Y), rational.Mul(u.Z, v.Z))
}

func anyNumber(r *rand.Rand) api.Rational { return ratio(r.Intn(9)-4, 1+r.Intn(2)*r.Intn(4)) }

// anyDirection makes a vector that is not zero.
func anyDirection(r *rand.Rand) api.Vector {
	for {
		v := api.Vector{X: anyNumber(r), Y: anyNumber(r), Z: anyNumber(r)}
		if v != of("0 0 0") {
			return v
		}
	}
}

// anyFactor makes a number that is not 0.
func anyFactor(r *rand.Rand) api.Rational {
	for {
		if k := anyNumber(r); k != "0" {
			return k
		}
	}
}

// call is a function with some directions, which reports whether all results but the error are zero values.
type call struct {
	name       string
	directions int
	do         func(v ...api.Vector) (isZero bool, e api.Errno)
}

func calls() []call {
	return []call{
		{"Check", 1, func(v ...api.Vector) (bool, api.Errno) { return true, lineation.Check(v[0]) }},
		{"Of", 1, func(v ...api.Vector) (bool, api.Errno) { x, e := lineation.Of(v[0]); return x == api.Vector{}, e }},
		{"Same", 2, func(v ...api.Vector) (bool, api.Errno) { x, e := lineation.Same(v[0], v[1]); return !x, e }},
		{"Trend", 1, func(v ...api.Vector) (bool, api.Errno) { x, e := lineation.Trend(v[0]); return x == 0, e }},
		{"CompareTrend", 2, func(v ...api.Vector) (bool, api.Errno) { x, e := lineation.CompareTrend(v[0], v[1]); return x == 0, e }},
		{"Plunge", 1, func(v ...api.Vector) (bool, api.Errno) {
			x, vertical, e := lineation.Plunge(v[0])
			return x == "" && !vertical, e
		}},
		{"ComparePlunge", 2, func(v ...api.Vector) (bool, api.Errno) { x, e := lineation.ComparePlunge(v[0], v[1]); return x == 0, e }},
		{"Angle", 2, func(v ...api.Vector) (bool, api.Errno) { x, e := lineation.Angle(v[0], v[1]); return x == "", e }},
		{"CompareAngles", 4, func(v ...api.Vector) (bool, api.Errno) {
			x, e := lineation.CompareAngles([2]api.Vector{v[0], v[1]}, [2]api.Vector{v[2], v[3]})
			return x == 0, e
		}},
		{"Lies", 2, func(v ...api.Vector) (bool, api.Errno) { x, e := lineation.Lies(v[0], v[1]); return !x, e }},
		{"Intersect", 2, func(v ...api.Vector) (bool, api.Errno) {
			x, e := lineation.Intersect(v[0], v[1])
			return x == api.Vector{}, e
		}},
		{"Pitch", 2, func(v ...api.Vector) (bool, api.Errno) { x, e := lineation.Pitch(v[0], v[1]); return x == "", e }},
		{"Interlimb", 2, func(v ...api.Vector) (bool, api.Errno) { x, e := lineation.Interlimb(v[0], v[1]); return x == 0, e }},
	}
}

// TestDirectionErrors gives each function a wrong direction at each place, and another error behind it.
func TestDirectionErrors(t *testing.T) {
	type wrong struct {
		v api.Vector
		e api.Errno
	}
	all := []wrong{{of("0 0 0"), api.ErrZero}, {of("0 x 0"), api.ErrNumber}}
	for _, x := range samples.NotRight() {
		all = append(all, wrong{api.Vector{X: x, Y: "0", Z: "0"}, api.ErrNumber}, wrong{api.Vector{X: "0", Y: x, Z: "0"}, api.ErrNumber}, wrong{api.Vector{X: "0", Y: "0", Z: x}, api.ErrNumber})
	}
	for _, c := range calls() {
		for _, w := range all {
			for at := range c.directions {
				// The others are vertical, so that the errors behind those of Check apply, too.
				v := []api.Vector{of("0 0 1"), of("0 0 1"), of("0 0 1"), of("0 0 1")}
				v[at] = w.v
				if isZero, e := c.do(v...); !isZero || e != w.e {
					t.Errorf("%s with %v at %d: %t, %d", c.name, w.v, at, isZero, e)
				}
				for behind := at + 1; behind < c.directions; behind++ {
					for _, other := range all[:2] {
						v[behind] = other.v
						if isZero, e := c.do(v...); !isZero || e != w.e {
							t.Errorf("%s with %v at %d and %v at %d: %t, %d", c.name, w.v, at, other.v, behind, isZero, e)
						}
					}
					v[behind] = of("0 0 1")
				}
			}
		}
	}
}

func TestCheck(t *testing.T) {
	for _, v := range []api.Vector{of("1 0 0"), of("0 -1/2 0"), of("0 0 7"), {X: most, Y: tiny, Z: "-" + most}} {
		if e := lineation.Check(v); e != api.OK {
			t.Errorf("Check(%v) = %d", v, e)
		}
	}
}

func TestOf(t *testing.T) {
	long := rational.Sub(most, "1")
	for _, c := range []struct {
		v, want api.Vector
		e       api.Errno
	}{
		{of("2 -4 6"), of("-1 2 -3"), api.OK},
		{of("2 -4 -6"), of("1 -2 -3"), api.OK},
		{of("-1 2 -3"), of("-1 2 -3"), api.OK},
		{of("1/2 -1/3 1/4"), of("-6 4 -3"), api.OK},
		{of("0 0 5/7"), of("0 0 -1"), api.OK},
		{of("0 0 -5/7"), of("0 0 -1"), api.OK},
		{of("3 6 0"), of("1 2 0"), api.OK},
		{of("3 -6 0"), of("-1 2 0"), api.OK},
		{of("0 -6 0"), of("0 1 0"), api.OK},
		{of("0 1/9 0"), of("0 1 0"), api.OK},
		{of("-8 0 0"), of("1 0 0"), api.OK},
		{of("8 0 0"), of("1 0 0"), api.OK},
		{of("0 4 -2/3"), of("0 6 -1"), api.OK},
		{of("0 -4 2/3"), of("0 6 -1"), api.OK},
		{of("-2 0 1"), of("2 0 -1"), api.OK},
		{api.Vector{X: most, Y: "0", Z: most}, of("-1 0 -1"), api.OK},
		{api.Vector{X: most, Y: "1", Z: "0"}, api.Vector{X: most, Y: "1", Z: "0"}, api.OK},
		{api.Vector{X: tiny, Y: "1", Z: "0"}, api.Vector{X: "1", Y: most, Z: "0"}, api.OK},
		{api.Vector{X: "1", Y: tiny, Z: "-1"}, api.Vector{X: most, Y: "1", Z: "-" + most}, api.OK},
		{api.Vector{X: tiny, Y: "2", Z: "0"}, api.Vector{}, api.ErrLimit},
		{api.Vector{X: "2", Y: tiny, Z: "0"}, api.Vector{}, api.ErrLimit},
		{api.Vector{X: "0", Y: tiny, Z: "2"}, api.Vector{}, api.ErrLimit},
		{api.Vector{X: tiny, Y: "1/" + long, Z: "0"}, api.Vector{X: long, Y: most, Z: "0"}, api.OK},
		{api.Vector{X: tiny, Y: "1/" + long, Z: "1"}, api.Vector{}, api.ErrLimit},
	} {
		if got, e := lineation.Of(c.v); got != c.want || e != c.e {
			t.Errorf("Of(%v) = %v, %d", c.v, got, e)
		}
	}
}

func TestSame(t *testing.T) {
	for _, c := range []struct {
		u, v api.Vector
		want bool
	}{
		{of("2 -4 6"), of("-1 2 -3"), true}, {of("1/2 0 0"), of("-7 0 0"), true}, {of("1 2 3"), of("1 2 3"), true}, {of("1/2 1/3 1"), of("3 2 6"), true},
		{of("1 0 0"), of("0 1 0"), false}, {of("1 2 3"), of("1 2 -3"), false}, {of("1 2 0"), of("1 2 1"), false}, {of("0 0 1"), of("0 1 1"), false},
		{api.Vector{X: most, Y: "0", Z: tiny}, api.Vector{X: "-" + most, Y: "0", Z: "-" + tiny}, true},
		{api.Vector{X: most, Y: "1", Z: most}, api.Vector{X: "1", Y: tiny, Z: "1"}, true},
		{api.Vector{X: most, Y: "0", Z: tiny}, api.Vector{X: most, Y: "0", Z: "-" + tiny}, false},
		{api.Vector{X: most, Y: most, Z: "1"}, api.Vector{X: most, Y: most, Z: rational.Sub("1", tiny)}, false},
	} {
		if got, e := lineation.Same(c.u, c.v); got != c.want || e != api.OK {
			t.Errorf("Same(%v, %v) = %t, %d", c.u, c.v, got, e)
		}
	}
}

// TestFormLaws checks that the downward form is the primitive multiple that points downward, and that multiples share it.
func TestFormLaws(t *testing.T) {
	r := rand.New(rand.NewSource(1))
	for range 2000 {
		v := anyDirection(r)
		form, e := lineation.Of(v)
		x, y, z := rational.Sign(form.X), rational.Sign(form.Y), rational.Sign(form.Z)
		isDown := z < 0 || z == 0 && y > 0 || z == 0 && y == 0 && x > 0
		common := api.Int("0")
		for _, n := range []api.Rational{form.X, form.Y, form.Z} {
			common = integer.Gcd(common, api.Int(n))
		}
		parallel, _ := vector.Parallel(form, v)
		if !isDown || common != "1" || !parallel || e != api.OK {
			t.Fatalf("Of(%v) = %v, %d", v, form, e)
		}
		k := anyFactor(r)
		if other, _ := lineation.Of(times(k, v)); other != form {
			t.Fatalf("Of(%v) = %v, and multiplied by %s it is %v", v, form, k, other)
		}
		if again, _ := lineation.Of(form); again != form {
			t.Fatalf("Of(%v) = %v", form, again)
		}
		u := anyDirection(r)
		otherForm, _ := lineation.Of(u)
		if same, e := lineation.Same(u, v); same != (form == otherForm) || e != api.OK {
			t.Fatalf("Same(%v, %v) = %t, %d", u, v, same, e)
		}
	}
}

func TestPlunge(t *testing.T) {
	for _, c := range []struct {
		v        api.Vector
		squared  api.Rational
		vertical bool
		e        api.Errno
	}{
		{of("2 -4 6"), "9/5", false, api.OK},
		{of("1 0 1"), "1", false, api.OK},
		{of("-1 0 1"), "1", false, api.OK},
		{of("1/2 1/3 -1/6"), "1/13", false, api.OK},
		{of("3 4 0"), "0", false, api.OK},
		{of("0 0 1/2"), "", true, api.OK},
		{of("0 0 -9"), "", true, api.OK},
		{api.Vector{X: "0", Y: "0", Z: most}, "", true, api.OK},
		{api.Vector{X: most, Y: "0", Z: most}, "1", false, api.OK},
		{api.Vector{X: tiny, Y: tiny, Z: tiny}, "1/2", false, api.OK},
		{api.Vector{X: most, Y: "0", Z: "1"}, "", false, api.ErrLimit},
		{api.Vector{X: "1", Y: "1", Z: most}, "", false, api.ErrLimit},
	} {
		if squared, vertical, e := lineation.Plunge(c.v); squared != c.squared || vertical != c.vertical || e != c.e {
			t.Errorf("Plunge(%v) = %s, %t, %d", c.v, squared, vertical, e)
		}
	}
}

func TestComparePlunge(t *testing.T) {
	// Each one plunges more than those before it; those of a list plunge as much.
	levels := [][]api.Vector{
		{of("1 0 0"), of("0 -1/2 0"), of("-3 7 0"), {X: most, Y: tiny, Z: "0"}},
		{{X: most, Y: "0", Z: "1"}, {X: "0", Y: "1", Z: "-" + tiny}},
		{of("1 0 -1/9"), of("0 9 1")},
		{of("3 4 5"), of("5 0 -5"), of("-1/5 0 1/5"), {X: most, Y: "0", Z: most}},
		{{X: rational.Sub("1", tiny), Y: "0", Z: "1"}},
		{of("1 1 2"), of("-1/2 -1/2 -1")},
		{{X: tiny, Y: "0", Z: most}},
		{of("0 0 1"), of("0 0 -1/2"), {X: "0", Y: "0", Z: most}},
	}
	for i, level := range levels {
		for j, other := range levels {
			for _, u := range level {
				for _, v := range other {
					if got, e := lineation.ComparePlunge(u, v); got != cmp.Compare(i, j) || e != api.OK {
						t.Errorf("ComparePlunge(%v, %v) = %d, %d", u, v, got, e)
					}
				}
			}
		}
	}
}

func TestPlungeLaws(t *testing.T) {
	r := rand.New(rand.NewSource(2))
	for range 1000 {
		u, v, k := anyDirection(r), anyDirection(r), anyFactor(r)
		a, isA, e1 := lineation.Plunge(u)
		b, isB, e2 := lineation.Plunge(v)
		want := 0
		switch {
		case !isA && !isB:
			want = rational.Compare(a, b)
		case !isB:
			want = 1
		case !isA:
			want = -1
		}
		if got, e := lineation.ComparePlunge(u, v); got != want || max(e, e1, e2) != api.OK {
			t.Fatalf("ComparePlunge(%v, %v) = %d, %d", u, v, got, e)
		}
		if again, is, e := lineation.Plunge(times(k, u)); again != a || is != isA || e != api.OK {
			t.Fatalf("Plunge(%v) = %s, but multiplied by %s it is %s", u, a, k, again)
		}
	}
}
