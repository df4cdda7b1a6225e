package stereonet_test

import (
	"math"
	"math/rand"
	"slices"
	"strings"
	"testing"

	"klippe/api"
	"klippe/rational"
	"klippe/samples"
	"klippe/stereonet"
)

var (
	most = samples.Most()
	tiny = "1/" + most
)

func of(s string) api.Vector          { return samples.Vector(s) }
func ratio(num, den int) api.Rational { x, _ := rational.Of(num, den); return x }

// list reads vectors, which are separated by commas.
func list(s string) []api.Vector {
	var l []api.Vector
	for part := range strings.SplitSeq(s, ",") {
		l = append(l, of(part))
	}
	return l
}

func times(k api.Rational, v api.Vector) api.Vector {
	return api.Vector{X: rational.Mul(k, v.X), Y: rational.Mul(k, v.Y), Z: rational.Mul(k, v.Z)}
}

func dot(u, v api.Vector) api.Rational {
	return rational.Sum(rational.Mul(u.X, v.X), rational.Mul(u.Y, v.Y), rational.Mul(u.Z, v.Z))
}

func anyNumber(r *rand.Rand) api.Rational { return ratio(r.Intn(13)-6, 1+r.Intn(2)*r.Intn(4)) }

// anyDirection makes a vector that is not zero.
func anyDirection(r *rand.Rand) api.Vector {
	for {
		v := api.Vector{X: anyNumber(r), Y: anyNumber(r), Z: anyNumber(r)}
		if v != of("0 0 0") {
			return v
		}
	}
}

// wrongVectors has vectors of which a number is not right; the others are 0.
func wrongVectors() []api.Vector {
	var l []api.Vector
	for _, x := range samples.NotRight() {
		l = append(l, api.Vector{X: x, Y: "0", Z: "0"}, api.Vector{X: "0", Y: x, Z: "0"}, api.Vector{X: "0", Y: "0", Z: x})
	}
	return l
}

// wrongNet is a net with its error.
type wrongNet struct {
	n stereonet.Net
	e api.Errno
}

func wrongNets() []wrongNet {
	var l []wrongNet
	for _, kind := range []int{0, 3, -1, math.MaxInt, math.MinInt} {
		l = append(l, wrongNet{stereonet.Net{Kind: kind, Radius: 5}, api.ErrKind}, wrongNet{stereonet.Net{Kind: kind, Radius: 0}, api.ErrKind})
	}
	for _, radius := range []int{0, -1, stereonet.MaxRadius + 1, math.MaxInt, math.MinInt} {
		l = append(l, wrongNet{stereonet.Net{Kind: 1, Radius: radius}, api.ErrRange}, wrongNet{stereonet.Net{Kind: 2, Radius: radius}, api.ErrRange})
	}
	return l
}

// call is a function of a net and a vector, of which others stand before it, and wrong arguments behind it; it reports whether the result is a zero value.
type call struct {
	name   string
	hasNet bool
	do     func(n stereonet.Net, v api.Vector) (bool, api.Errno)
}

func calls() []call {
	zero := of("0 0 0")
	return []call{
		{"Lower", false, func(_ stereonet.Net, v api.Vector) (bool, api.Errno) {
			x, e := stereonet.Lower(v)
			return x == api.Vector{}, e
		}},
		{"Pixel", true, func(n stereonet.Net, v api.Vector) (bool, api.Errno) {
			x, e := stereonet.Pixel(n, v)
			return x == stereonet.Dot{}, e
		}},
		{"Circle", true, func(n stereonet.Net, v api.Vector) (bool, api.Errno) {
			x, e := stereonet.Circle(n, v, 0)
			return len(x) == 0, e
		}},
		{"first Same", false, func(_ stereonet.Net, v api.Vector) (bool, api.Errno) { x, e := stereonet.Same(v, zero); return !x, e }},
		{"second Same", false, func(_ stereonet.Net, v api.Vector) (bool, api.Errno) {
			x, e := stereonet.Same(of("1 0 0"), v)
			return !x, e
		}},
		{"axis of Within", false, func(_ stereonet.Net, v api.Vector) (bool, api.Errno) {
			x, e := stereonet.Within(v, "2", []api.Vector{of("1 0 0"), zero})
			return len(x) == 0, e
		}},
		{"pole of Within", false, func(_ stereonet.Net, v api.Vector) (bool, api.Errno) {
			x, e := stereonet.Within(of("1 0 0"), "-1", []api.Vector{of("1 0 0"), v, zero})
			return len(x) == 0, e
		}},
		{"Picture", true, func(n stereonet.Net, v api.Vector) (bool, api.Errno) {
			x, e := stereonet.Picture(n, []api.Vector{of("1 0 0"), v, zero})
			return len(x) == 0, e
		}},
	}
}

// TestErrors gives each function wrong vectors and nets, and asks which error comes first.
func TestErrors(t *testing.T) {
	right := stereonet.Net{Kind: stereonet.EqualAngle, Radius: 5}
	expect := func(c call, n stereonet.Net, v api.Vector, want api.Errno) {
		t.Helper()
		if isZero, e := c.do(n, v); !isZero || e != want {
			t.Errorf("%s(%v, %v): %t, %d", c.name, n, v, isZero, e)
		}
	}
	for _, c := range calls() {
		for _, v := range wrongVectors() {
			expect(c, right, v, api.ErrNumber)
			expect(c, stereonet.Net{}, v, api.ErrNumber)
		}
		expect(c, right, of("0 0 0"), api.ErrZero)
		for _, w := range wrongNets() {
			if c.hasNet {
				expect(c, w.n, of("0 0 0"), w.e)
				expect(c, w.n, of("1 0 0"), w.e)
			}
		}
	}
	// A number that is not right comes before a vector of zeros that stands before it.
	if same, e := stereonet.Same(of("0 0 0"), of("0 0 x")); same || e != api.ErrNumber {
		t.Errorf("Same = %t, %d", same, e)
	}
}

func TestLower(t *testing.T) {
	for _, c := range []struct{ v, want api.Vector }{
		{of("1 0 1"), of("-1 0 -1")}, {of("1 0 -1"), of("1 0 -1")}, {of("2 -4 6"), of("-2 4 -6")}, {of("-1/2 1/3 1/5"), of("1/2 -1/3 -1/5")},
		{of("1 2 0"), of("1 2 0")}, {of("-1 2 0"), of("-1 2 0")}, {of("1 -2 0"), of("1 -2 0")}, {of("-3 0 0"), of("-3 0 0")}, {of("0 -3 0"), of("0 -3 0")},
		{of("0 0 4"), of("0 0 -4")}, {of("0 0 -4"), of("0 0 -4")},
		{api.Vector{X: most, Y: tiny, Z: tiny}, api.Vector{X: "-" + most, Y: "-" + tiny, Z: "-" + tiny}},
	} {
		if got, e := stereonet.Lower(c.v); got != c.want || e != api.OK {
			t.Errorf("Lower(%v) = %v, %d", c.v, got, e)
		}
	}
}

func TestSame(t *testing.T) {
	for _, c := range []struct {
		a, b api.Vector
		want bool
	}{
		{of("2 -4 6"), of("-1 2 -3"), true}, {of("1 0 0"), of("-1/7 0 0"), true}, {of("1/2 1/3 0"), of("3 2 0"), true}, {of("0 0 1"), of("0 0 5"), true},
		{of("1 2 3"), of("1 2 -3"), false}, {of("1 0 0"), of("0 1 0"), false}, {of("1 2 0"), of("1 2 1"), false}, {of("0 0 1"), of("1 0 1"), false},
		{api.Vector{X: most, Y: "1", Z: most}, api.Vector{X: "-1", Y: "-" + tiny, Z: "-1"}, true},
		{api.Vector{X: most, Y: "1", Z: most}, api.Vector{X: "1", Y: "0", Z: "1"}, false},
	} {
		if got, e := stereonet.Same(c.a, c.b); got != c.want || e != api.OK {
			t.Errorf("Same(%v, %v) = %t, %d", c.a, c.b, got, e)
		}
	}
}

func TestWithin(t *testing.T) {
	for _, c := range []struct {
		axis   string
		cosine api.Rational
		poles  string
		want   []int
	}{
		{"0 0 1", "1/2", "0 0 1, 0 0 -3, 1 0 0, 1 0 1, 0 2 1, 3 4 -5", []int{0, 1, 3, 5}},
		{"0 0 1", "1", "0 0 1, 0 0 -3, 1 0 0, 0 1/1000 1", []int{0, 1}},
		{"0 0 1", "0", "0 0 1, 1 0 0, -1 -1 -1, 0 -5 0", []int{0, 1, 2, 3}},
		// The cosine is exactly 3/5.
		{"0 0 -2", "3/5", "4 0 3, 0 -4 -3, 4 0 2999/1000, 4 0 3001/1000, 4001/1000 0 -3", []int{0, 1, 3}},
		{"1/2 1/2 0", "1/2", "1 0 1, 0 1 -1, -1 0 1, 1 0 1001/1000, 1 0 -999/1000", []int{0, 1, 2, 4}},
		{"1 2 3", "1", "-2 -4 -6, 1/3 2/3 1, 1 2 2", []int{0, 1}},
		{"1 0 0", "1/1000000", "0 1 0, 1 999999 0, 1 1000001 0", []int{1}},
	} {
		if got, e := stereonet.Within(of(c.axis), c.cosine, list(c.poles)); !slices.Equal(got, c.want) || e != api.OK {
			t.Errorf("Within(%s, %s, %s) = %v, %d", c.axis, c.cosine, c.poles, got, e)
		}
	}
	if got, e := stereonet.Within(of("1 0 0"), "1/2", nil); len(got) != 0 || e != api.OK {
		t.Errorf("Within = %v, %d", got, e)
	}
	// Cosines and numbers as long as they may be.
	nearly := rational.Sub("1", tiny)
	poles := []api.Vector{{X: most, Y: "0", Z: "0"}, {X: most, Y: "1", Z: "0"}, {X: "0", Y: tiny, Z: most}, {X: "1", Y: tiny, Z: tiny}}
	for cosine, want := range map[api.Rational][]int{"1": {0}, nearly: {0, 1, 3}, tiny: {0, 1, 3}, "0": {0, 1, 2, 3}} {
		if got, e := stereonet.Within(api.Vector{X: tiny, Y: "0", Z: "0"}, cosine, poles); !slices.Equal(got, want) || e != api.OK {
			t.Errorf("Within the cosine %s: %v, %d", cosine, got, e)
		}
	}
}

func TestWithinErrors(t *testing.T) {
	right := list("1 0 0, 0 1 0")
	full := slices.Repeat(right, stereonet.MaxPoles/2)
	many := append(slices.Clone(full), of("0 0 0"))
	wrong := append(slices.Clone(many), of("0 x 0"))
	for _, c := range []struct {
		axis   string
		cosine api.Rational
		poles  []api.Vector
		e      api.Errno
	}{
		{"0 0 1", "0", full, api.OK},
		{"0 0 1", "-1/1000000", right, api.ErrRange},
		{"0 0 1", "1000001/1000000", right, api.ErrRange},
		{"0 0 1", "-" + most, nil, api.ErrRange},
		{"0 0 0", "2", many, api.ErrLimit},
		{"0 0 1", "2", many, api.ErrLimit},
		{"0 0 1", "2", wrong, api.ErrNumber},
		{"0 0 0", "2", full, api.ErrZero},
		{"0 0 1", "2", list("1 0 0, 0 0 0"), api.ErrZero},
		{"0 0 0", "2/4", many, api.ErrNumber},
		{"0 x 0", "2", many, api.ErrNumber},
	} {
		got, e := stereonet.Within(of(c.axis), c.cosine, c.poles)
		if e != c.e || e != api.OK && len(got) != 0 || e == api.OK && len(got) != len(c.poles) {
			t.Errorf("Within(%s, %s, %d poles) = %v, %d", c.axis, c.cosine, len(c.poles), got, e)
		}
	}
	for _, cosine := range samples.NotRight() {
		if got, e := stereonet.Within(of("0 0 0"), cosine, many); len(got) != 0 || e != api.ErrNumber {
			t.Errorf("Within with %q = %v, %d", cosine, got, e)
		}
	}
}

// TestAxisLaws compares Lower, Same and Within with dot products.
func TestAxisLaws(t *testing.T) {
	r := rand.New(rand.NewSource(1))
	for range 1000 {
		a, b := anyDirection(r), anyDirection(r)
		lower, e := stereonet.Lower(a)
		if rational.Sign(lower.Z) > 0 || lower != a && (lower != times("-1", a) || rational.Sign(a.Z) <= 0) || e != api.OK {
			t.Fatalf("Lower(%v) = %v, %d", a, lower, e)
		}
		product := dot(a, b)
		squared, _ := rational.Div(rational.Mul(product, product), rational.Mul(dot(a, a), dot(b, b)))
		if same, e := stereonet.Same(a, b); same != (squared == "1") || e != api.OK {
			t.Fatalf("Same(%v, %v) = %t, %d", a, b, same, e)
		}
		cosine := ratio(r.Intn(13), 12)
		var want []int
		if rational.Compare(squared, rational.Mul(cosine, cosine)) >= 0 {
			want = []int{1}
		}
		want = append([]int{0}, want...)
		if got, e := stereonet.Within(a, cosine, []api.Vector{times("-1/3", a), b}); !slices.Equal(got, want) || e != api.OK {
			t.Fatalf("Within(%v, %s, %v) = %v, %d", a, cosine, b, got, e)
		}
	}
}
