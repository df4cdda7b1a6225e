package fitting_test

import (
	"math/rand"
	"slices"
	"strings"
	"testing"

	"klippe/api"
	"klippe/fitting"
	"klippe/rational"
	"klippe/samples"
)

var (
	most = samples.Most()
	tiny = "1/" + most
	// power is the least number with the greatest number of digits.
	power = api.Rational("1" + strings.Repeat("0", api.MaxDigits-1))
)

func of(s string) api.Vector          { return samples.Vector(s) }
func ratio(num, den int) api.Rational { x, _ := rational.Of(num, den); return x }

// list reads vectors, which are separated by commas.
func list(s string) []api.Vector {
	var l []api.Vector
	for row := range strings.SplitSeq(s, ",") {
		l = append(l, of(row))
	}
	return l
}

func times(k api.Rational, v api.Vector) api.Vector {
	return api.Vector{X: rational.Mul(k, v.X), Y: rational.Mul(k, v.Y), Z: rational.Mul(k, v.Z)}
}

func dot(u, v api.Vector) api.Rational {
	return rational.Sum(rational.Mul(u.X, v.X), rational.Mul(u.Y, v.Y), rational.Mul(u.Z, v.Z))
}

func div(x, y api.Rational) api.Rational {
	quotient, _ := rational.Div(x, y)
	return quotient
}

func anyNumber(r *rand.Rand) api.Rational { return ratio(r.Intn(7)-3, 1+r.Intn(2)*r.Intn(3)) }

// anyNormal makes a vector that is not zero.
func anyNormal(r *rand.Rand) api.Vector {
	for {
		v := api.Vector{X: anyNumber(r), Y: anyNumber(r), Z: anyNumber(r)}
		if v != of("0 0 0") {
			return v
		}
	}
}

func anyNormals(r *rand.Rand, n int) []api.Vector {
	l := make([]api.Vector, n)
	for i := range l {
		l[i] = anyNormal(r)
	}
	return l
}

// level is a right fit for places of the height 0.
func level() fitting.Fit {
	return fitting.Fit{Slope: samples.Point("0 0"), Height: "0", Most: "0"}
}

// call is a function with a list, which reports whether all results but the error are zero values.
type call struct {
	name string
	do   func(l []api.Vector) (isZero bool, e api.Errno)
}

// withNormals has the functions with a list of normals.
func withNormals() []call {
	return []call{
		{"Total", func(l []api.Vector) (bool, api.Errno) { x, e := fitting.Total(of("1 0 0"), l); return x == "", e }},
		{"Axis", func(l []api.Vector) (bool, api.Errno) {
			x, total, e := fitting.Axis(l)
			return x == api.Vector{} && total == "", e
		}},
		{"Cylindrical", func(l []api.Vector) (bool, api.Errno) {
			x, is, e := fitting.Cylindrical(l)
			return x == api.Vector{} && !is, e
		}},
		{"Mean", func(l []api.Vector) (bool, api.Errno) { x, e := fitting.Mean(l); return x == api.Vector{}, e }},
		{"Spread", func(l []api.Vector) (bool, api.Errno) { x, e := fitting.Spread(l); return x == "", e }},
	}
}

// withPlaces has the functions with a list of places; a fit of theirs is wrong, too.
func withPlaces() []call {
	wrong := fitting.Fit{Height: "x"}
	return []call{
		{"Plane", func(l []api.Vector) (bool, api.Errno) { f, e := fitting.Plane(l); return isNone(f), e }},
		{"Residuals", func(l []api.Vector) (bool, api.Errno) { x, e := fitting.Residuals(l, wrong); return len(x) == 0, e }},
		{"Extreme", func(l []api.Vector) (bool, api.Errno) { x, e := fitting.Extreme(l, wrong); return len(x) == 0, e }},
		{"Verify", func(l []api.Vector) (bool, api.Errno) { return true, fitting.Verify(l, wrong) }},
	}
}

func isNone(f fitting.Fit) bool {
	return f.Slope == api.Point{} && f.Height == "" && f.Most == "" && len(f.Dual.Multipliers) == 0
}

// wrong is a list with its error.
type wrong struct {
	l []api.Vector
	e api.Errno
}

// wrongLists has lists with errors, and other errors behind them.
func wrongLists() []wrong {
	many := slices.Repeat(list("0 0 1"), fitting.MaxList+1)
	all := []wrong{{nil, api.ErrEmpty}, {[]api.Vector{}, api.ErrEmpty}, {many, api.ErrLimit}}
	many = slices.Clone(many)
	many[0] = of("0 x 0")
	all = append(all, wrong{many, api.ErrLimit}, wrong{list("0 0 1, x 0 0, 0 0 0"), api.ErrNumber}, wrong{list("1 1 0, 0 0"), api.ErrNumber})
	for _, x := range samples.NotRight() {
		for _, v := range []api.Vector{{X: x, Y: "0", Z: "0"}, {X: "0", Y: x, Z: "0"}, {X: "0", Y: "0", Z: x}} {
			all = append(all, wrong{[]api.Vector{v}, api.ErrNumber}, wrong{append(list("1 1 0, 0 1 1"), v), api.ErrNumber})
		}
	}
	return all
}

func TestListErrors(t *testing.T) {
	for _, c := range slices.Concat(withNormals(), withPlaces()) {
		for _, w := range wrongLists() {
			if isZero, e := c.do(w.l); !isZero || e != w.e {
				t.Errorf("%s(%v): %t, %d", c.name, w.l, isZero, e)
			}
		}
	}
	for _, c := range withNormals() {
		for _, w := range []wrong{{list("0 0 0"), api.ErrZero}, {list("1 1 0, 0 0 0, 0 x 0"), api.ErrZero}, {list("1 1 0, 0 x 0, 0 0 0"), api.ErrNumber}} {
			if isZero, e := c.do(w.l); !isZero || e != w.e {
				t.Errorf("%s(%v): %t, %d", c.name, w.l, isZero, e)
			}
		}
	}
	// A place can be zero.
	for _, c := range withPlaces() {
		if isZero, e := c.do(list("0 0 0, 0 x 0")); !isZero || e != api.ErrNumber {
			t.Errorf("%s: %t, %d", c.name, isZero, e)
		}
	}
	full := slices.Repeat(list("0 0 1"), fitting.MaxList)
	for _, c := range withNormals() {
		if _, e := c.do(full); e != api.OK && (c.name != "Axis" || e != api.ErrDependent) {
			t.Errorf("%s of %d normals: %d", c.name, len(full), e)
		}
	}
	if _, e := fitting.Plane(full); e != api.OK {
		t.Errorf("Plane of %d places: %d", len(full), e)
	}
}

// TestUnchanged calls each function, and looks at the arguments behind that.
func TestUnchanged(t *testing.T) {
	normals := list("3 4 0, 0 0 -2, 1 2 2, 0 -3 4")
	fit := level()
	fit.Dual.Multipliers = samples.Numbers("1/2 1/2 0 0 0 0 0 0")
	before, multipliers := slices.Clone(normals), slices.Clone(fit.Dual.Multipliers)
	for _, c := range slices.Concat(withNormals(), withPlaces()) {
		c.do(normals)
	}
	fitting.Residuals(normals, fit)
	fitting.Extreme(normals, fit)
	fitting.Verify(normals, fit)
	if !slices.Equal(normals, before) || !slices.Equal(fit.Dual.Multipliers, multipliers) {
		t.Errorf("the arguments are %v, %v", normals, fit.Dual.Multipliers)
	}
}
