package polygon

import (
	"math/rand"
	"slices"
	"testing"

	"klippe/api"
	"klippe/rational"
	"klippe/samples"
	"klippe/vector"
)

var (
	most     = samples.Most()
	notRight = samples.NotRight()
)

func points(s string) []api.Point     { return samples.Points(s) }
func point(s string) api.Point        { return samples.Point(s) }
func ratio(num, den int) api.Rational { x, _ := rational.Of(num, den); return x }

// square is the square of the chapter's examples.
func square() []api.Point { return points("0 0 4 0 4 4 0 4") }

// bow returns a polygon with some corners on a parabola.
func bow(corners int) []api.Point {
	var l []api.Point
	for i := range corners {
		l = append(l, vector.At(i, i*i))
	}
	return l
}

// spoilt returns squares with one number that is not right, at each of the eight places.
func spoilt(x api.Rational) [][]api.Point {
	var l [][]api.Point
	for i := range 4 {
		first, second := square(), square()
		first[i].X, second[i].Y = x, x
		l = append(l, first, second)
	}
	return l
}

// anyPoints makes points with small numbers, many of them on one line, or equal.
func anyPoints(r *rand.Rand, n int) []api.Point {
	l := make([]api.Point, n)
	for i := range l {
		l[i] = api.Point{X: ratio(r.Intn(9)-4, 1+r.Intn(3)*r.Intn(2)), Y: ratio(r.Intn(9)-4, 1+r.Intn(3)*r.Intn(2))}
	}
	return l
}

func anyPolygon(r *rand.Rand) []api.Point {
	for {
		if p, e := Hull(anyPoints(r, 3+r.Intn(8))); e == api.OK {
			return p
		}
	}
}

func TestCheck(t *testing.T) {
	long := api.Point{X: most, Y: "0"}
	for _, c := range []struct {
		p    []api.Point
		want api.Errno
	}{
		{square(), api.OK}, {points("0 0 1 0 0 1"), api.OK}, {points("-1/2 0 0 -1/3 1 0 0 7"), api.OK}, {bow(60), api.OK}, {[]api.Point{point("0 0"), long, point("0 1")}, api.OK},
		{points("1 0 2 1 1 2 0 1"), api.ErrOrder}, {points("0 4 0 0 4 0 4 4"), api.ErrOrder}, {points("4 4 0 4 0 0 4 0"), api.ErrOrder}, {points("0 1 0 0 1 0"), api.ErrOrder},
		{nil, api.ErrSize}, {[]api.Point{}, api.ErrSize}, {points("0 0"), api.ErrSize}, {points("0 0 1 0"), api.ErrSize}, {[]api.Point{{}, {}}, api.ErrSize},
		{bow(61), api.ErrLimit}, {make([]api.Point, 61), api.ErrLimit}, {make([]api.Point, 60), api.ErrNumber},
		// Clockwise, on one line, with equal corners, or not convex.
		{points("0 0 0 4 4 4 4 0"), api.ErrForm}, {points("0 0 0 1 1 0"), api.ErrForm}, {points("0 0 1 1 2 2"), api.ErrForm}, {points("0 0 2 0 4 0 4 4"), api.ErrForm}, {points("0 0 4 0 4 4 2 2"), api.ErrForm}, {points("0 0 4 0 4 4 0 4 0 2"), api.ErrForm},
		{points("0 0 0 0 4 0 4 4"), api.ErrForm}, {points("0 0 4 0 4 4 0 0"), api.ErrForm}, {points("0 0 4 0 4 4 4 4"), api.ErrForm}, {points("0 0 0 0 0 0"), api.ErrForm}, {points("0 0 4 0 1 1 0 4"), api.ErrForm}, {points("0 0 4 0 0 4 4 4"), api.ErrForm},
		// Round more than once: a star, and a triangle twice.
		{points("0 3 6 3 1 0 3 5 5 0"), api.ErrForm}, {points("0 0 4 0 0 4 0 0 4 0 0 4"), api.ErrForm}, {slices.Concat(square(), square()), api.ErrForm},
	} {
		if e := Check(c.p); e != c.want {
			t.Errorf("Check(%v) = %d, not %d", c.p, e, c.want)
		}
	}
	for _, x := range notRight {
		for _, p := range spoilt(x) {
			if e := Check(p); e != api.ErrNumber {
				t.Errorf("Check(%v) = %d", p, e)
			}
		}
	}
}

// isPolygon asks for each side and each other corner, as the chapter says it.
func isPolygon(p []api.Point) bool {
	for i := range p {
		next := (i + 1) % len(p)
		for k := range p {
			if turn, _ := vector.Turn(p[i], p[next], p[k]); k != i && k != next && turn <= 0 {
				return false
			}
		}
	}
	return true
}

// TestCheckForm compares Check with the chapter's words, for lists of few points.
func TestCheckForm(t *testing.T) {
	r := rand.New(rand.NewSource(1))
	for range 20000 {
		p := make([]api.Point, 3+r.Intn(3))
		for i := range p {
			p[i] = vector.At(r.Intn(4), r.Intn(4))
		}
		if r.Intn(2) == 0 {
			p = turned(anyPolygon(r), r.Intn(3))
		}
		want := api.OK
		if !isPolygon(p) {
			want = api.ErrForm
		} else if slices.MinFunc(p, order) != p[0] {
			want = api.ErrOrder
		}
		if e := Check(p); e != want {
			t.Fatalf("Check(%v) = %d, not %d", p, e, want)
		}
	}
}

func turned(p []api.Point, n int) []api.Point { return slices.Concat(p[n:], p[:n]) }

func order(a, b api.Point) int {
	if a.X == b.X {
		return rational.Compare(a.Y, b.Y)
	}
	return rational.Compare(a.X, b.X)
}

func TestEqual(t *testing.T) {
	if !Equal(square(), square()) || !Equal(nil, []api.Point{}) || !Equal([]api.Point{{X: "a"}}, []api.Point{{X: "a"}}) {
		t.Error("Equal")
	}
	for _, q := range [][]api.Point{nil, points("0 0 4 0 4 4"), points("0 0 4 0 4 4 0 5"), turned(square(), 1), points("0 0 4 0 4 4 0 4 0 4")} {
		if Equal(square(), q) || Equal(q, square()) {
			t.Errorf("Equal to %v", q)
		}
	}
}

func TestHull(t *testing.T) {
	for s, want := range map[string]string{
		"0 0 2 0 1 1 1 3 0 2":               "0 0 2 0 1 3 0 2",
		"0 0 4 0 4 4 0 4":                   "0 0 4 0 4 4 0 4",
		"4 4 0 4 0 0 4 0 4 4 0 0":           "0 0 4 0 4 4 0 4",
		"0 0 1 0 2 0 2 1 2 2 1 2 0 2 0 1":   "0 0 2 0 2 2 0 2",
		"0 1/2 -1/3 1 2 2":                  "-1/3 1 0 1/2 2 2",
		"3 3 3 3 1 1 3 -3 3 -3 3 0":         "1 1 3 -3 3 3",
		"0 0 0 0 0 1 0 1 1 0 1 0":           "0 0 1 0 0 1",
		"-1 5 -1 4 -1 6 5 5 2 5":            "-1 4 5 5 -1 6",
		"0 0 10 10 5 5 5 6 2 2 3 3 7 7 9 9": "0 0 10 10 5 6",
	} {
		l := points(s)
		p, e := Hull(l)
		if !Equal(p, points(want)) || e != api.OK || !Equal(l, points(s)) {
			t.Errorf("Hull(%s) = %v, %d", s, p, e)
		}
	}
	for _, l := range [][]api.Point{nil, points("0 0"), points("0 0 1 1"), points("1 1 1 1 1 1 1 1"), points("0 0 1 2 2 4 -3 -6 1/2 1"), points("0 0 0 0 5 5 5 5"), points("3 0 3 5 3 2"), make200(200, "7")} {
		if p, e := Hull(l); p != nil || e != api.ErrEmpty {
			t.Errorf("Hull(%v) = %v, %d", l, p, e)
		}
	}
	if p, e := Hull(make200(201, "7")); p != nil || e != api.ErrLimit {
		t.Errorf("Hull of 201 points = %v, %d", p, e)
	}
	if p, e := Hull(make200(201, "")); p != nil || e != api.ErrLimit {
		t.Errorf("Hull of 201 points = %v, %d", p, e)
	}
	if p, e := Hull(slices.Concat(bow(60), make200(140, "7"))); !Equal(p, bow(60)) || e != api.OK {
		t.Errorf("Hull = %v, %d", p, e)
	}
	if p, e := Hull(bow(61)); p != nil || e != api.ErrLimit {
		t.Errorf("Hull of 61 corners = %v, %d", p, e)
	}
	for _, x := range notRight {
		for _, l := range [][]api.Point{{{X: x, Y: "0"}}, {{X: "0", Y: "0"}, {X: "0", Y: x}}, append(bow(61), api.Point{X: x, Y: x})} {
			if p, e := Hull(l); p != nil || e != api.ErrNumber {
				t.Errorf("Hull(%v) = %v, %d", l, p, e)
			}
		}
	}
}

// make200 returns a point many times.
func make200(n int, x api.Rational) []api.Point {
	return slices.Repeat([]api.Point{{X: x, Y: "49"}}, n)
}

// TestHullLaws asks for a polygon whose corners are given points, without a point outside.
func TestHullLaws(t *testing.T) {
	r := rand.New(rand.NewSource(2))
	for range 1000 {
		l := anyPoints(r, r.Intn(15))
		p, e := Hull(l)
		if e != api.OK {
			if e != api.ErrEmpty || !onLine(l) {
				t.Fatalf("Hull(%v) = %d", l, e)
			}
			continue
		}
		if e := Check(p); e != api.OK {
			t.Fatalf("Check(%v) = %d", p, e)
		}
		for _, x := range l {
			if where, e := Where(p, x); where < 0 || e != api.OK {
				t.Fatalf("%v is outside of %v", x, p)
			}
		}
		for _, x := range p {
			if !slices.Contains(l, x) {
				t.Fatalf("%v is not in %v", x, l)
			}
		}
		if again, e := Hull(p); !Equal(again, p) || e != api.OK {
			t.Fatalf("Hull(%v) = %v, %d", p, again, e)
		}
	}
}

// onLine reports whether no three points turn.
func onLine(l []api.Point) bool {
	for i := range l {
		for j := range i {
			for k := range j {
				if turn, _ := vector.Turn(l[i], l[j], l[k]); turn != 0 {
					return false
				}
			}
		}
	}
	return true
}

func TestWhere(t *testing.T) {
	for s, want := range map[string]int{"1 1": 1, "2 2": 1, "1/1000 1/1000": 1, "0 0": 0, "4 4": 0, "2 0": 0, "4 1/3": 0, "0 7/2": 0, "5 2": -1, "-1 2": -1, "2 -1/1000": -1, "2 4001/1000": -1, "5 0": -1, "-1 0": -1, "4 5": -1, "0 -7": -1} {
		if n, e := Where(square(), point(s)); n != want || e != api.OK {
			t.Errorf("Where(%s) = %d, %d", s, n, e)
		}
	}
	if n, e := Where(bow(60), point("30 900")); n != 0 || e != api.OK {
		t.Errorf("Where = %d, %d", n, e)
	}
	far := api.Point{X: most, Y: "-" + most}
	if n, e := Where(square(), far); n != -1 || e != api.OK {
		t.Errorf("Where = %d, %d", n, e)
	}
	for _, x := range notRight {
		for _, at := range []api.Point{{X: x, Y: "1"}, {X: "1", Y: x}} {
			n, e := Where(square(), at)
			n2, e2 := Where(turned(square(), 1), at)
			if n != 0 || n2 != 0 || e != api.ErrNumber || e2 != api.ErrOrder {
				t.Errorf("Where(%v) = %d, %d, %d, %d", at, n, e, n2, e2)
			}
		}
	}
}

func TestWhereLaws(t *testing.T) {
	r := rand.New(rand.NewSource(3))
	for range 2000 {
		p, x := anyPolygon(r), anyPoints(r, 1)[0]
		want := 1
		for i, a := range p {
			b := p[(i+1)%len(p)]
			turn, _ := vector.Turn(a, b, x)
			if turn < 0 {
				want = -1
			}
			if is, _ := vector.Between(a, b, x); is {
				want = 0
			}
		}
		if n, e := Where(p, x); n != want || e != api.OK {
			t.Fatalf("Where(%v, %v) = %d, %d", p, x, n, e)
		}
	}
}
