package polyline_test

import (
	"math/rand"
	"slices"
	"strings"
	"testing"

	"klippe/api"
	"klippe/polyline"
	"klippe/rational"
	"klippe/samples"
	"klippe/surd"
	"klippe/vector"
)

// ten returns a power of ten.
func ten(n int) api.Rational { return api.Rational("1" + strings.Repeat("0", n)) }

func TestLength(t *testing.T) {
	for _, c := range []struct{ c, length, around string }{
		{"0 0 2 0 2 2", "4", "4 + sqrt(8)"},
		{"0 0 3 4 3 5", "6", "6 + sqrt(34)"},
		{"0 0 2 2 3 1", "3 sqrt(2)", "3 sqrt(2) + sqrt(10)"},
		{"0 0 1 1 4 4 4 0", "4 + 4 sqrt(2)", "8 + 4 sqrt(2)"},
		{"0 0 1/2 1/2 0 1", "sqrt(2)", "1 + sqrt(2)"},
		{"0 0 1/2 1/3 2/3 -1/3", "1/36 sqrt(468) + 1/36 sqrt(612)", "1/9 sqrt(45) + 1/36 sqrt(468) + 1/36 sqrt(612)"},
	} {
		length, e1 := polyline.Length(points(c.c))
		around, e2 := polyline.Around(points(c.c))
		text1, _ := surd.Text(length)
		text2, _ := surd.Text(around)
		if text1 != c.length || text2 != c.around || e1 != api.OK || e2 != api.OK {
			t.Errorf("Length(%s) = %s, %d, Around = %s, %d", c.c, text1, e1, text2, e2)
		}
	}
	if length, e := polyline.Length(points("0 0 3 4")); !surd.Same(length, surd.Surd{{Factor: "5", Radicand: "1"}}) || e != api.OK {
		t.Errorf("Length = %v, %d", length, e)
	}
}

// TestLongLengths has lengths that are right though the roots on the way are not, and others.
func TestLongLengths(t *testing.T) {
	origin, far := point("0 0"), ten(150)
	for _, c := range []struct {
		c    []api.Point
		want surd.Surd
		e    api.Errno
	}{
		{[]api.Point{origin, {X: far, Y: "0"}}, surd.Surd{{Factor: far, Radicand: "1"}}, api.OK},
		{[]api.Point{origin, {X: "0", Y: "1/" + far}}, surd.Surd{{Factor: "1/" + far, Radicand: "1"}}, api.OK},
		{[]api.Point{origin, point("1 1"), {X: far, Y: far}}, surd.Surd{{Factor: far, Radicand: "2"}}, api.OK},
		{[]api.Point{{X: "-" + far, Y: "-" + far}, point("-1 -1"), point("1 1")}, surd.Surd{{Factor: rational.Middle(far, "1"), Radicand: "8"}}, api.OK},
		{[]api.Point{origin, {X: far, Y: far}}, nil, api.ErrLimit},
		{[]api.Point{origin, {X: "1/" + far, Y: "1/" + far}}, nil, api.ErrLimit},
		{[]api.Point{origin, {X: most, Y: "0"}}, surd.Surd{{Factor: most, Radicand: "1"}}, api.OK},
		{[]api.Point{origin, {X: most, Y: "0"}, {X: most, Y: "1"}}, nil, api.ErrLimit},
		{[]api.Point{{X: "0", Y: "1/" + most}, origin, {X: "1/" + ten(150), Y: "0"}}, nil, api.ErrLimit},
	} {
		if length, e := polyline.Length(c.c); !surd.Same(length, c.want) || e != c.e {
			t.Errorf("Length(%v) = %v, %d", c.c, length, e)
		}
	}
	around := []api.Point{origin, {X: far, Y: "0"}, {X: far, Y: far}, {X: "0", Y: far}}
	if length, e := polyline.Around(around); !surd.Same(length, surd.Surd{{Factor: rational.Mul("4", far), Radicand: "1"}}) || e != api.OK {
		t.Errorf("Around = %v, %d", length, e)
	}
	if length, e := polyline.Around(around[:3]); len(length) != 0 || e != api.ErrLimit {
		t.Errorf("Around = %v, %d", length, e)
	}
}

// stairs returns a chain that goes on by steps whose squared lengths are different primes.
func stairs(steps int) []api.Point {
	l, x, y := []api.Point{vector.At(0, 0)}, 0, 0
	for prime := 2; len(l) <= steps; prime++ {
		isPrime := true
		for n := 2; n*n <= prime; n++ {
			isPrime = isPrime && prime%n != 0
		}
		for a := 1; isPrime && a*a < prime; a++ {
			for b := 1; b <= a; b++ {
				if a*a+b*b == prime {
					x, y = x+a, y+b
					l = append(l, vector.At(x, y))
				}
			}
		}
	}
	return l
}

func TestTerms(t *testing.T) {
	if length, e := polyline.Length(stairs(40)); len(length) != 40 || e != api.OK || surd.Check(length) != api.OK {
		t.Errorf("Length of 40 steps: %v, %d", length, e)
	}
	if length, e := polyline.Length(stairs(41)); len(length) != 0 || e != api.ErrLimit {
		t.Errorf("Length of 41 steps: %v, %d", length, e)
	}
	if length, e := polyline.Around(bow(400)); len(length) != 0 || e != api.ErrLimit {
		t.Errorf("Around: %v, %d", length, e)
	}
}

// lengthOf adds up the lengths of segments as surds.
func lengthOf(t *testing.T, c []api.Point) surd.Surd {
	t.Helper()
	var l []surd.Surd
	for i, to := range c[1:] {
		x, y := rational.Sub(to.X, c[i].X), rational.Sub(to.Y, c[i].Y)
		root, e := surd.Of(rational.Add(rational.Mul(x, x), rational.Mul(y, y)))
		if e != api.OK {
			t.Fatalf("Of: %d", e)
		}
		l = append(l, root)
	}
	sum, e := surd.Sum(l)
	if e != api.OK {
		t.Fatalf("Sum: %d", e)
	}
	return sum
}

func TestMeasureLaws(t *testing.T) {
	r := rand.New(rand.NewSource(2))
	for range 500 {
		c := anyChain(r, 8)
		before := slices.Clone(c)
		if length, e := polyline.Length(c); !surd.Same(length, lengthOf(t, c)) || e != api.OK {
			t.Fatalf("Length(%v) = %v, %d", c, length, e)
		}
		ring := anyRing(r, 8)
		around, e := polyline.Around(ring)
		if !surd.Same(around, lengthOf(t, append(slices.Clone(ring), ring[0]))) || e != api.OK {
			t.Fatalf("Around(%v) = %v, %d", ring, around, e)
		}
		area, e := polyline.Area(ring)
		if area != fan(ring) || e != api.OK {
			t.Fatalf("Area(%v) = %s, %d", ring, area, e)
		}
		back, e1 := polyline.Area(reversed(ring))
		other, e2 := polyline.Area(turned(ring, r.Intn(len(ring))))
		if back != rational.Neg(area) || other != area || e1 != api.OK || e2 != api.OK {
			t.Fatalf("Area(%v) = %s, backward %s, from another point on %s", ring, area, back, other)
		}
		checkOrient(t, ring, area)
		if !slices.Equal(before, c) {
			t.Fatal("an argument has changed")
		}
	}
}

// fan adds up the areas of the triangles at the first point.
func fan(ring []api.Point) api.Rational {
	sum := api.Rational("0")
	for i := 2; i < len(ring); i++ {
		area, _ := vector.Area(ring[0], ring[i-1], ring[i])
		sum = rational.Add(sum, area)
	}
	return sum
}

func checkOrient(t *testing.T, ring []api.Point, area api.Rational) {
	t.Helper()
	want, before := ring, slices.Clone(ring)
	if rational.Sign(area) < 0 {
		want = reversed(ring)
	}
	want = turned(want, slices.Index(want, slices.MinFunc(want, order)))
	got, e := polyline.Orient(ring)
	if !slices.Equal(got, want) || e != api.OK || !slices.Equal(ring, before) {
		t.Fatalf("Orient(%v) = %v, %d", ring, got, e)
	}
	if again, _ := polyline.Orient(got); !slices.Equal(again, got) {
		t.Fatalf("Orient(%v) = %v", got, again)
	}
	got[0].X, got[len(got)-1].Y = "17", "18"
	if !slices.Equal(ring, before) {
		t.Fatalf("Orient(%v) shares its memory", before)
	}
}

func order(a, b api.Point) int {
	if n := rational.Compare(a.X, b.X); n != 0 {
		return n
	}
	return rational.Compare(a.Y, b.Y)
}

func TestArea(t *testing.T) {
	less := func(n int) api.Rational { return rational.Sub(most, rational.Whole(n)) }
	for _, c := range []struct {
		c    []api.Point
		want api.Rational
		e    api.Errno
	}{
		{points("0 0 2 0 2 2"), "4", api.OK}, {points("0 0 2 2 2 0"), "-4", api.OK}, {points("1 1 5 1 5 2 2 2 2 4 1 4"), "12", api.OK}, {points("0 0 1/2 0 0 1/3"), "1/6", api.OK}, {points("0 0 1 0 2 0 2 1"), "2", api.OK},
		{[]api.Point{{X: less(1), Y: less(1)}, {X: most, Y: less(1)}, {X: most, Y: most}}, "1", api.OK},
		{[]api.Point{point("0 0"), {X: "1/" + most, Y: "0"}, {X: "0", Y: most}}, "1", api.OK},
		{[]api.Point{point("0 0"), {X: most, Y: "0"}, {X: "0", Y: "-1"}}, "-" + most, api.OK},
		{[]api.Point{point("0 0"), {X: most, Y: "0"}, {X: "0", Y: "2"}}, "", api.ErrLimit},
		{[]api.Point{point("0 0"), {X: "1/" + most, Y: "0"}, {X: "0", Y: "1/7"}}, "", api.ErrLimit},
	} {
		if area, e := polyline.Area(c.c); area != c.want || e != c.e {
			t.Errorf("Area(%v) = %s, %d", c.c, area, e)
		}
	}
}

func TestOrient(t *testing.T) {
	for s, want := range map[string]string{
		"0 0 2 0 2 2":         "0 0 2 0 2 2",
		"2 2 2 0 0 0":         "0 0 2 0 2 2",
		"2 0 0 0 0 2 2 2":     "0 0 2 0 2 2 0 2",
		"0 2 0 0 0 -1 3 0":    "0 -1 3 0 0 2 0 0",
		"3 0 0 -1 0 0 0 2":    "0 -1 3 0 0 2 0 0",
		"1/2 0 1/3 5 7 7 6 0": "1/3 5 1/2 0 6 0 7 7",
	} {
		if got, e := polyline.Orient(points(s)); !slices.Equal(got, points(want)) || e != api.OK {
			t.Errorf("Orient(%s) = %v, %d", s, got, e)
		}
	}
}

func TestHas(t *testing.T) {
	c := points("0 0 4 2 4 0 6 0")
	for s, want := range map[string]bool{"0 0": true, "2 1": true, "1/3 1/6": true, "4 2": true, "4 1/7": true, "4 0": true, "5 0": true, "6 0": true, "3 0": false, "7 0": false, "-2 -1": false, "6 3": false, "4 3": false, "4 -1": false, "2 2": false, "0 1/9": false} {
		got, e := polyline.Has(c, point(s))
		back, _ := polyline.Has(reversed(c), point(s))
		if got != want || back != want || e != api.OK {
			t.Errorf("Has(%s) = %t, %d", s, got, e)
		}
	}
}

func TestLocate(t *testing.T) {
	c := points("0 0 4 0 4 4 2 1 0 4")
	for s, want := range map[string]int{"2 1/2": 1, "1 1": 1, "1/2 3": 1, "7/2 3": 1, "1 2": 1, "3 2": 1, "0 0": 0, "2 0": 0, "4 3": 0, "2 1": 0, "3 5/2": 0, "0 4": 0, "0 1": 0, "2 4": -1, "2 2": -1, "-1 0": -1, "5 0": -1, "-1 4": -1, "5 4": -1, "2 -1": -1, "2 5": -1, "-1 1": -1, "5 1": -1, "-3 2": -1} {
		for i := range c {
			for _, ring := range [][]api.Point{turned(c, i), reversed(turned(c, i))} {
				if got, e := polyline.Locate(ring, point(s)); got != want || e != api.OK {
					t.Errorf("Locate(%v, %s) = %d, %d", ring, s, got, e)
				}
			}
		}
	}
	// The numbers on the way are long.
	far := []api.Point{{X: "-" + most, Y: "-" + most}, {X: most, Y: "-" + most}, {X: "0", Y: most}}
	for _, x := range []struct {
		p    api.Point
		want int
	}{{point("0 0"), 1}, {api.Point{X: "0", Y: most}, 0}, {api.Point{X: "1/" + most, Y: most}, -1}, {api.Point{X: "1/" + most, Y: rational.Sub(most, "1")}, 1}} {
		if got, e := polyline.Locate(far, x.p); got != x.want || e != api.OK {
			t.Errorf("Locate(%v) = %d, %d", x.p, got, e)
		}
	}
}

// isBetween asks whether a place is on a segment: there the ways to both ends have opposite directions.
func isBetween(a, b, p api.Point) bool {
	x1, y1, x2, y2 := rational.Sub(a.X, p.X), rational.Sub(a.Y, p.Y), rational.Sub(b.X, p.X), rational.Sub(b.Y, p.Y)
	return rational.Mul(x1, y2) == rational.Mul(x2, y1) && rational.Sign(rational.Add(rational.Mul(x1, x2), rational.Mul(y1, y2))) <= 0
}

// whereOf counts the sides that a segment from a place to one far away meets, neither of which is on a line with a corner.
func whereOf(ring []api.Point, p api.Point) int {
	around := append(slices.Clone(ring), ring[0])
	for far := 100; ; far++ {
		q, where, isClear := vector.At(far, far*far), -1, true
		for i, to := range around[1:] {
			if isBetween(around[i], to, p) {
				return 0
			}
			turn, _ := vector.Turn(p, q, to)
			isClear = isClear && turn != 0
			if places, _ := meet(around[i], to, p, q); places > 0 {
				where = -where
			}
		}
		if isClear {
			return where
		}
	}
}

func TestPlaceLaws(t *testing.T) {
	r := rand.New(rand.NewSource(3))
	counts := map[int]int{}
	for range 400 {
		c, ring := anyChain(r, 8), anyRing(r, 8)
		for _, p := range slices.Concat(anyPoints(r, 6), c) {
			want := false
			for i, to := range c[1:] {
				want = want || isBetween(c[i], to, p)
			}
			if got, e := polyline.Has(c, p); got != want || e != api.OK {
				t.Fatalf("Has(%v, %v) = %t, %d", c, p, got, e)
			}
			where, e := polyline.Locate(ring, p)
			if where != whereOf(ring, p) || e != api.OK {
				t.Fatalf("Locate(%v, %v) = %d, %d", ring, p, where, e)
			}
			counts[where]++
		}
		for _, p := range c {
			if is, _ := polyline.Has(c, p); !is {
				t.Fatalf("%v has not %v", c, p)
			}
		}
	}
	if len(counts) != 3 {
		t.Errorf("the places are %v", counts)
	}
}

// wrong has lists of points with the errors of Check and of Ring.
var wrong = []struct {
	c           []api.Point
	chain, ring api.Errno
}{
	{nil, api.ErrSize, api.ErrSize}, {points("0 0"), api.ErrSize, api.ErrSize}, {make([]api.Point, 401), api.ErrLimit, api.ErrLimit}, {points("0 0 01 0 0 1"), api.ErrNumber, api.ErrNumber}, {points("0 0 0 0 0 1"), api.ErrZero, api.ErrZero}, {points("0 0 2 2 2 0 0 2"), api.ErrCross, api.ErrCross},
}

func TestMeasureErrors(t *testing.T) {
	for _, c := range wrong {
		length, e1 := polyline.Length(c.c)
		has, e2 := polyline.Has(c.c, api.Point{})
		if len(length) != 0 || has || e1 != c.chain || e2 != c.chain {
			t.Errorf("%v: Length = %v, %d, Has = %t, %d", c.c, length, e1, has, e2)
		}
		around, e1 := polyline.Around(c.c)
		area, e2 := polyline.Area(c.c)
		oriented, e3 := polyline.Orient(c.c)
		where, e4 := polyline.Locate(c.c, api.Point{})
		if len(around) != 0 || area != "" || len(oriented) != 0 || where != 0 || e1 != c.ring || e2 != c.ring || e3 != c.ring || e4 != c.ring {
			t.Errorf("%v: Around = %v, %d, Area = %s, %d, Orient = %v, %d, Locate = %d, %d", c.c, around, e1, area, e2, oriented, e3, where, e4)
		}
	}
	for _, x := range samples.NotRight() {
		for _, p := range []api.Point{{X: x, Y: "0"}, {X: "0", Y: x}} {
			has, e1 := polyline.Has(points("0 0 2 0 2 2"), p)
			where, e2 := polyline.Locate(points("0 0 2 0 2 2"), p)
			if has || where != 0 || e1 != api.ErrNumber || e2 != api.ErrNumber {
				t.Errorf("%v: Has = %t, %d, Locate = %d, %d", p, has, e1, where, e2)
			}
		}
	}
}
