package attitude_test

import (
	"math/rand"
	"testing"

	"klippe/api"
	"klippe/attitude"
	"klippe/rational"
	"klippe/vector"
)

func TestGradient(t *testing.T) {
	for _, c := range []struct {
		n    api.Vector
		want api.Point
		e    api.Errno
	}{
		{of("1 0 1"), point("-1 0"), api.OK},
		{of("-1 0 -1"), point("-1 0"), api.OK},
		{of("-1 -2 2"), point("1/2 1"), api.OK},
		{of("1/2 -1/3 -3"), point("1/6 -1/9"), api.OK},
		{of("0 0 -7"), point("0 0"), api.OK},
		{of("1 0 0"), api.Point{}, api.ErrUnbounded},
		{of("0 -1/2 0"), api.Point{}, api.ErrUnbounded},
		{api.Vector{X: most, Y: "0", Z: "1/2"}, api.Point{}, api.ErrLimit},
		{api.Vector{X: "0", Y: most, Z: "1/2"}, api.Point{}, api.ErrLimit},
		{api.Vector{X: most, Y: "-" + most, Z: "-1"}, api.Point{X: most, Y: "-" + most}, api.OK},
		{api.Vector{X: "1/" + most, Y: "0", Z: "1/" + most}, point("-1 0"), api.OK},
	} {
		if got, e := attitude.Gradient(c.n); got != c.want || e != c.e {
			t.Errorf("Gradient(%v) = %v, %d", c.n, got, e)
		}
	}
}

func TestNormal(t *testing.T) {
	for _, c := range []struct{ g, want string }{{"1 2", "-1 -2 1"}, {"0 0", "0 0 1"}, {"-1/2 0", "1/2 0 1"}} {
		if got, e := attitude.Normal(point(c.g)); got != of(c.want) || e != api.OK {
			t.Errorf("Normal(%s) = %v, %d", c.g, got, e)
		}
	}
	if got, e := attitude.Normal(api.Point{X: most, Y: "1/" + most}); got != (api.Vector{X: "-" + most, Y: "-1/" + most, Z: "1"}) || e != api.OK {
		t.Errorf("Normal = %v, %d", got, e)
	}
	for _, g := range wrongPoints() {
		if got, e := attitude.Normal(g); got != (api.Vector{}) || e != api.ErrNumber {
			t.Errorf("Normal(%v) = %v, %d", g, got, e)
		}
	}
	r := rand.New(rand.NewSource(4))
	for range 300 {
		g := anyPoint(r)
		n, _ := attitude.Normal(g)
		if back, e := attitude.Gradient(n); back != g || n.Z != "1" || e != api.OK {
			t.Fatalf("Normal(%v) = %v with the gradient %v, %d", g, n, back, e)
		}
	}
}

func TestThree(t *testing.T) {
	for _, c := range []struct {
		a, b, c string
		normal  string
		offset  api.Rational
		e       api.Errno
	}{
		{"0 0 0", "1 0 1", "0 1 2", "-1 -2 1", "0", api.OK},
		{"0 0 0", "0 1 2", "1 0 1", "-1 -2 1", "0", api.OK},
		{"0 0 1/2", "5 0 1/2", "0 7 1/2", "0 0 1", "1/2", api.OK},
		{"0 0 1/2", "4 0 0", "0 4 1/6", "3 2 24", "12", api.OK},
		{"1 2 3", "2 2 4", "1 3 3", "-1 0 1", "2", api.OK},
		{"0 0 0", "1 1 1", "2 2 2", "", "", api.ErrDependent},
		{"0 0 0", "1 1 0", "2 2 0", "", "", api.ErrDependent},
		{"0 0 0", "0 0 1", "0 0 5", "", "", api.ErrDependent},
		{"1 2 3", "1 2 3", "2 2 0", "", "", api.ErrDependent},
		{"1 2 3", "2 2 0", "1 2 3", "", "", api.ErrDependent},
		{"0 0 0", "1 1 0", "2 2 1", "", "", api.ErrUnbounded},
		{"0 0 0", "1 1 5", "0 0 1", "", "", api.ErrUnbounded},
	} {
		want := api.Plane{}
		if c.e == api.OK {
			want = api.Plane{Normal: of(c.normal), Offset: c.offset}
		}
		if got, e := attitude.Three(of(c.a), of(c.b), of(c.c)); got != want || e != c.e {
			t.Errorf("Three(%s, %s, %s) = %v, %d", c.a, c.b, c.c, got, e)
		}
	}
	for _, v := range wrongVectors() {
		for i := range 3 {
			// The three places are on one line.
			l := [3]api.Vector{of("0 0 0"), of("0 0 0"), of("0 0 0")}
			l[i] = v
			if got, e := attitude.Three(l[0], l[1], l[2]); got != (api.Plane{}) || e != api.ErrNumber {
				t.Errorf("Three(%v) = %v, %d", l, got, e)
			}
		}
	}
}

func TestLongThree(t *testing.T) {
	tiny := api.Rational("1/" + most)
	plane := func(x, y, z, offset api.Rational) api.Plane {
		return api.Plane{Normal: api.Vector{X: x, Y: y, Z: z}, Offset: offset}
	}
	for _, c := range []struct {
		a, b, c api.Vector
		want    api.Plane
		e       api.Errno
	}{
		{of("0 0 0"), api.Vector{X: most, Y: "0", Z: most}, api.Vector{X: "0", Y: most, Z: "0"}, plane("-1", "0", "1", "0"), api.OK},
		{of("0 0 0"), api.Vector{X: tiny, Y: "0", Z: "1"}, of("0 1 0"), plane("-"+most, "0", "1", "0"), api.OK},
		{of("0 0 0"), api.Vector{X: tiny, Y: "0", Z: "2"}, of("0 1 0"), api.Plane{}, api.ErrLimit},
		{of("0 0 0"), of("1 0 0"), api.Vector{X: "0", Y: tiny, Z: "2"}, api.Plane{}, api.ErrLimit},
		{of("0 0 0"), api.Vector{X: most, Y: "0", Z: "1/2"}, of("0 1 0"), api.Plane{}, api.ErrLimit},
		{api.Vector{X: "0", Y: "0", Z: most}, of("1 0 0"), of("0 1 0"), plane(most, most, "1", most), api.OK},
		// Only the offset is too long.
		{api.Vector{X: most, Y: "0", Z: "0"}, api.Vector{X: rational.Sub(most, "1"), Y: "0", Z: "2"}, api.Vector{X: most, Y: "1", Z: "0"}, api.Plane{}, api.ErrLimit},
		{api.Vector{X: most, Y: "0", Z: "0"}, api.Vector{X: rational.Sub(most, "1"), Y: "0", Z: "1"}, api.Vector{X: most, Y: "1", Z: "0"}, plane("1", "0", "1", most), api.OK},
		{of("0 0 0"), of("0 0 1"), api.Vector{X: most, Y: tiny, Z: "0"}, api.Plane{}, api.ErrUnbounded},
	} {
		if got, e := attitude.Three(c.a, c.b, c.c); got != c.want || e != c.e {
			t.Errorf("Three(%v, %v, %v) = %v, %d", c.a, c.b, c.c, got, e)
		}
	}
}

// TestThreeLaws asks for the height of each of three places, and for a normal without common divisors.
func TestThreeLaws(t *testing.T) {
	r := rand.New(rand.NewSource(5))
	counts := map[api.Errno]int{}
	for range 2000 {
		a, b, c := anyVector(r), anyVector(r), anyVector(r)
		if r.Intn(4) == 0 {
			k := ratio(r.Intn(5), 2)
			c.X, c.Y = rational.Add(a.X, rational.Mul(k, rational.Sub(b.X, a.X))), rational.Add(a.Y, rational.Mul(k, rational.Sub(b.Y, a.Y)))
		}
		p, e := attitude.Three(a, b, c)
		counts[e]++
		spanned, e2 := vector.Spanned(a, b, c)
		want := e2
		if e2 == api.OK && spanned.Normal.Z == "0" {
			want = api.ErrUnbounded
		}
		if e != want {
			t.Fatalf("Three(%v, %v, %v): %d", a, b, c, e)
		}
		if e != api.OK {
			continue
		}
		primitive, _ := vector.Primitive(spanned.Normal)
		if p.Normal != primitive && p.Normal != opposite(primitive) || rational.Sign(p.Normal.Z) != 1 {
			t.Fatalf("Three(%v, %v, %v) = %v", a, b, c, p)
		}
		for _, at := range []api.Vector{a, b, c} {
			if z, e := attitude.Height(p, api.Point{X: at.X, Y: at.Y}); z != at.Z || e != api.OK {
				t.Fatalf("Three(%v, %v, %v) = %v with the height %s at %v", a, b, c, p, z, at)
			}
		}
	}
	if counts[api.OK] < 500 || counts[api.ErrUnbounded] < 100 {
		t.Errorf("the errors are %v", counts)
	}
}

func TestHeight(t *testing.T) {
	for _, c := range []struct {
		normal string
		offset api.Rational
		at     string
		want   api.Rational
		e      api.Errno
	}{
		{"-1 -2 1", "0", "1 1", "3", api.OK},
		{"-1 -2 1", "0", "0 1/2", "1", api.OK},
		{"1 0 -2", "6", "2 9", "-2", api.OK},
		{"0 0 3", "1", "5 5", "1/3", api.OK},
		{"0 0 0", "x", "x 0", "", api.ErrZero},
		{"1 0 0", "x", "1 0", "", api.ErrNumber},
		{"1 0 0", "1", "1/1 0", "", api.ErrNumber},
		{"1 0 0", "1", "1 2/4", "", api.ErrNumber},
		{"1 0 0", "1", "1 2", "", api.ErrUnbounded},
	} {
		if got, e := attitude.Height(api.Plane{Normal: of(c.normal), Offset: c.offset}, point(c.at)); got != c.want || e != c.e {
			t.Errorf("Height(%s, %s, %s) = %s, %d", c.normal, c.offset, c.at, got, e)
		}
	}
	level := api.Plane{Normal: of("1 0 1"), Offset: "5"}
	for _, at := range wrongPoints() {
		if got, e := attitude.Height(level, at); got != "" || e != api.ErrNumber {
			t.Errorf("Height(%v) = %s, %d", at, got, e)
		}
	}
	for _, x := range notRight {
		if got, e := attitude.Height(api.Plane{Normal: of("1 0 0"), Offset: x}, point("0 0")); got != "" || e != api.ErrNumber {
			t.Errorf("Height(%s) = %s, %d", x, got, e)
		}
	}
	// The products on the way are too long.
	long := api.Plane{Normal: api.Vector{X: most, Y: "-" + most, Z: "1"}, Offset: "7"}
	if got, e := attitude.Height(long, api.Point{X: most, Y: most}); got != "7" || e != api.OK {
		t.Errorf("Height = %s, %d", got, e)
	}
	if got, e := attitude.Height(long, api.Point{X: most, Y: "0"}); got != "" || e != api.ErrLimit {
		t.Errorf("Height = %s, %d", got, e)
	}
}

func TestApparent(t *testing.T) {
	for _, c := range []struct {
		n, along string
		want     api.Rational
		e        api.Errno
	}{
		{"-1 -2 1", "1 1", "-3", api.OK},
		{"1 0 1", "1 0", "1", api.OK},
		{"-1 0 -1", "1 0", "1", api.OK},
		{"1 0 1", "0 5", "0", api.OK},
		{"1 2 4", "1/2 1/3", "7/24", api.OK},
		{"0 0 -3", "1 1", "0", api.OK},
		{"1 0 0", "0 0", "", api.ErrZero},
		{"1 0 0", "0 1/1", "", api.ErrNumber},
		{"1 0 0", "0 1", "", api.ErrUnbounded},
		{"0 0 0", "0 x", "", api.ErrZero},
	} {
		if got, e := attitude.Apparent(of(c.n), point(c.along)); got != c.want || e != c.e {
			t.Errorf("Apparent(%s, %s) = %s, %d", c.n, c.along, got, e)
		}
	}
	for _, along := range wrongPoints() {
		if got, e := attitude.Apparent(of("1 0 0"), along); got != "" || e != api.ErrNumber {
			t.Errorf("Apparent(%v) = %s, %d", along, got, e)
		}
	}
	n := api.Vector{X: most, Y: "-" + most, Z: "1/" + most}
	if got, e := attitude.Apparent(n, api.Point{X: most, Y: most}); got != "0" || e != api.OK {
		t.Errorf("Apparent = %s, %d", got, e)
	}
	if got, e := attitude.Apparent(n, point("1 0")); got != "" || e != api.ErrLimit {
		t.Errorf("Apparent = %s, %d", got, e)
	}
}

func fall(along string, by api.Rational) attitude.Fall {
	return attitude.Fall{Along: point(along), By: by}
}

func TestTrue(t *testing.T) {
	for _, c := range []struct {
		a, b attitude.Fall
		want string
		e    api.Errno
	}{
		{fall("1 0", "2"), fall("0 1", "-3"), "2 -3 1", api.OK},
		{fall("0 1", "-3"), fall("1 0", "2"), "2 -3 1", api.OK},
		{fall("1 1", "-3"), fall("1 0", "-1"), "-1 -2 1", api.OK},
		{fall("1 2", "1/2"), fall("-1/3 1", "0"), "3/10 1/10 1", api.OK},
		{fall("1 2", "0"), fall("1 3", "0"), "0 0 1", api.OK},
		{fall("1 2", "1"), fall("2 4", "2"), "", api.ErrDependent},
		{fall("1 2", "1"), fall("-1/2 -1", "7"), "", api.ErrDependent},
		{fall("x 2", "x"), fall("0 0", "x"), "", api.ErrNumber},
		{fall("0 0", "x"), fall("x 0", "x"), "", api.ErrZero},
		{fall("1 2", "x"), fall("0 0", "x"), "", api.ErrNumber},
		{fall("1 2", "0"), fall("0 0", "x"), "", api.ErrZero},
		{fall("1 2", "0"), fall("2 4", "x"), "", api.ErrNumber},
		{fall("1 2", "0"), fall("0 x", "1"), "", api.ErrNumber},
	} {
		want := api.Vector{}
		if c.e == api.OK {
			want = of(c.want)
		}
		if got, e := attitude.True(c.a, c.b); got != want || e != c.e {
			t.Errorf("True(%v, %v) = %v, %d", c.a, c.b, got, e)
		}
	}
	right := fall("1 0", "1")
	for _, along := range wrongPoints() {
		wrong := attitude.Fall{Along: along, By: "1"}
		if got, e := attitude.True(wrong, right); got != (api.Vector{}) || e != api.ErrNumber {
			t.Errorf("True(%v) = %v, %d", along, got, e)
		}
		if got, e := attitude.True(right, wrong); got != (api.Vector{}) || e != api.ErrNumber {
			t.Errorf("True(.., %v) = %v, %d", along, got, e)
		}
	}
	for _, x := range notRight {
		if got, e := attitude.True(fall("1 0", x), right); got != (api.Vector{}) || e != api.ErrNumber {
			t.Errorf("True(%s) = %v, %d", x, got, e)
		}
		if got, e := attitude.True(right, fall("1 0", x)); got != (api.Vector{}) || e != api.ErrNumber {
			t.Errorf("True(.., %s) = %v, %d", x, got, e)
		}
	}
}

func TestLongTrue(t *testing.T) {
	along := func(x, y, by api.Rational) attitude.Fall { return attitude.Fall{Along: api.Point{X: x, Y: y}, By: by} }
	for _, c := range []struct {
		a, b attitude.Fall
		want api.Vector
		e    api.Errno
	}{
		{along(most, "0", most), along("0", most, most), of("1 1 1"), api.OK},
		{along("1/"+most, "0", "1"), along("0", "1", most), api.Vector{X: most, Y: most, Z: "1"}, api.OK},
		{along("1/"+most, "0", "2"), along("0", "1", "1"), api.Vector{}, api.ErrLimit},
		{along("1", "0", "1"), along("0", "1/"+most, "2"), api.Vector{}, api.ErrLimit},
		{along("1/"+most, "0", "2"), along("2/"+most, "0", "1"), api.Vector{}, api.ErrDependent},
	} {
		if got, e := attitude.True(c.a, c.b); got != c.want || e != c.e {
			t.Errorf("True(%v, %v) = %v, %d", c.a, c.b, got, e)
		}
	}
}

// TestTrueLaws finds planes from what they fall along two directions; falls are differences of heights.
func TestTrueLaws(t *testing.T) {
	r := rand.New(rand.NewSource(6))
	for range 1000 {
		n, a, b := anyNormal(r), anyDirection(r), anyDirection(r)
		if n.Z == "0" {
			continue
		}
		p, at := api.Plane{Normal: n, Offset: anyNumber(r)}, anyPoint(r)
		here, _ := attitude.Height(p, at)
		there, _ := attitude.Height(p, api.Point{X: rational.Add(at.X, a.X), Y: rational.Add(at.Y, a.Y)})
		first, e := attitude.Apparent(n, a)
		if first != rational.Sub(here, there) || e != api.OK {
			t.Fatalf("Apparent(%v, %v) = %s, %d", n, a, first, e)
		}
		second, _ := attitude.Apparent(n, b)
		got, e := attitude.True(attitude.Fall{Along: a, By: first}, attitude.Fall{Along: b, By: second})
		if rational.Mul(a.X, b.Y) == rational.Mul(a.Y, b.X) {
			if e != api.ErrDependent {
				t.Fatalf("True along %v and %v: %d", a, b, e)
			}
			continue
		}
		want, _ := attitude.Gradient(n)
		if gradient, _ := attitude.Gradient(got); gradient != want || got.Z != "1" || e != api.OK {
			t.Fatalf("True of %v = %v, %d", n, got, e)
		}
	}
}
