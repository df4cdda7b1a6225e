package delaunay_test

import (
	"math/rand"
	"slices"
	"testing"

	"klippe/api"
	"klippe/delaunay"
	"klippe/rational"
	"klippe/samples"
	"klippe/vector"
)

var (
	most     = samples.Most()
	notRight = samples.NotRight()
)

func points(s string) []api.Point     { return samples.Points(s) }
func point(s string) api.Point        { return samples.Point(s) }
func ratio(num, den int) api.Rational { x, _ := rational.Of(num, den); return x }

// squared returns the squared distance.
func squared(a, b api.Point) api.Rational {
	x, y := rational.Sub(a.X, b.X), rational.Sub(a.Y, b.Y)
	return rational.Add(rational.Mul(x, x), rational.Mul(y, y))
}

// orders has all orders of three things.
func orders() [][3]int {
	return [][3]int{{0, 1, 2}, {1, 2, 0}, {2, 0, 1}, {0, 2, 1}, {2, 1, 0}, {1, 0, 2}}
}

// anyPoints makes different points, many of them on one line or on one circle.
func anyPoints(r *rand.Rand, n, size int) []api.Point {
	divisor := 1 + r.Intn(3)
	var l []api.Point
	for len(l) < n {
		p := api.Point{X: ratio(r.Intn(size)-size/2, divisor), Y: ratio(r.Intn(size)-size/2, divisor)}
		if !slices.Contains(l, p) {
			l = append(l, p)
		}
	}
	return l
}

func TestInCircle(t *testing.T) {
	for _, c := range []struct {
		three, at string
		want      int
	}{
		{"0 0 2 0 0 2", "2 2", 0}, {"0 0 2 0 0 2", "1 1", 1}, {"0 0 2 0 0 2", "3 0", -1},
		{"0 0 2 0 0 2", "0 0", 0}, {"0 0 2 0 0 2", "0 2", 0}, {"0 0 2 0 0 2", "2 0", 0},
		{"0 0 2 0 0 2", "5/2 1", -1}, {"0 0 2 0 0 2", "12/5 6/5", 0}, {"0 0 2 0 0 2", "12/5 5/4", -1}, {"0 0 2 0 0 2", "12/5 7/6", 1},
		{"0 0 4 0 2 1", "2 -1", 1}, {"0 0 4 0 2 1", "2 -4", 0}, {"0 0 4 0 2 1", "2 -5", -1},
	} {
		l, at := points(c.three), point(c.at)
		for _, o := range orders() {
			if got, e := delaunay.InCircle(l[o[0]], l[o[1]], l[o[2]], at); got != c.want || e != api.OK {
				t.Errorf("InCircle(%s, %s) = %d, %d, not %d", c.three, c.at, got, e, c.want)
			}
		}
	}
}

func TestCircle(t *testing.T) {
	for _, c := range []struct {
		three, center string
		squared       api.Rational
	}{
		{"0 0 2 0 0 2", "1 1", "2"}, {"0 0 4 0 2 1", "2 -3/2", "25/4"}, {"1/2 0 -1/2 0 0 1/2", "0 0", "1/4"}, {"-3 -3 5 -3 5 3", "1 0", "25"},
	} {
		l := points(c.three)
		for _, o := range orders() {
			center, squared, e := delaunay.Circle(l[o[0]], l[o[1]], l[o[2]])
			if center != point(c.center) || squared != c.squared || e != api.OK {
				t.Errorf("Circle(%s) = %v, %s, %d", c.three, center, squared, e)
			}
		}
	}
}

// TestCircleLaws asks for a centre with the same distance of all three points, to which the other point is compared.
func TestCircleLaws(t *testing.T) {
	r := rand.New(rand.NewSource(1))
	counts := map[int]int{}
	for range 3000 {
		l := anyPoints(r, 4, 6)
		center, square, e := delaunay.Circle(l[0], l[1], l[2])
		where, e2 := delaunay.InCircle(l[0], l[1], l[2], l[3])
		if turn, _ := vector.Turn(l[0], l[1], l[2]); turn == 0 {
			if e != api.ErrDependent || e2 != api.ErrDependent || center != (api.Point{}) || square != "" || where != 0 {
				t.Fatalf("Circle(%v) = %v, %s, %d; InCircle = %d, %d", l, center, square, e, where, e2)
			}
			continue
		}
		for _, p := range l[:3] {
			if squared(p, center) != square {
				t.Fatalf("Circle(%v) = %v, %s", l, center, square)
			}
		}
		if want := rational.Compare(square, squared(l[3], center)); where != want || e != api.OK || e2 != api.OK {
			t.Fatalf("InCircle(%v) = %d, %d, not %d", l, where, e2, want)
		}
		counts[where]++
	}
	if counts[-1] < 300 || counts[0] < 100 || counts[1] < 300 {
		t.Errorf("the results are %v", counts)
	}
}

func TestCircleErrors(t *testing.T) {
	for _, x := range notRight {
		for i := range 8 {
			// The first three points are equal.
			l := points("5 5 5 5 5 5 5 5")
			if i%2 == 0 {
				l[i/2].X = x
			} else {
				l[i/2].Y = x
			}
			if got, e := delaunay.InCircle(l[0], l[1], l[2], l[3]); got != 0 || e != api.ErrNumber {
				t.Errorf("InCircle(%v) = %d, %d", l, got, e)
			}
			center, squared, e := delaunay.Circle(l[0], l[1], l[2])
			want := api.ErrNumber
			if i > 5 {
				want = api.ErrDependent
			}
			if center != (api.Point{}) || squared != "" || e != want {
				t.Errorf("Circle(%v) = %v, %s, %d", l, center, squared, e)
			}
		}
	}
	for _, s := range []string{"0 0 1 1 3 3", "0 0 0 0 1 2", "1 2 0 0 1 2", "0 0 1 2 1 2", "1/3 0 1/3 5 1/3 7"} {
		l := points(s)
		if got, e := delaunay.InCircle(l[0], l[1], l[2], point("7 0")); got != 0 || e != api.ErrDependent {
			t.Errorf("InCircle(%s) = %d, %d", s, got, e)
		}
		if center, squared, e := delaunay.Circle(l[0], l[1], l[2]); center != (api.Point{}) || squared != "" || e != api.ErrDependent {
			t.Errorf("Circle(%s) = %v, %s, %d", s, center, squared, e)
		}
	}
}

// TestLongCircles has circles whose numbers are long, and too long.
func TestLongCircles(t *testing.T) {
	less := api.Point{X: "-" + most, Y: "0"}
	more := api.Point{X: most, Y: "0"}
	tiny := api.Rational("1/" + most)
	for _, c := range []struct {
		l    []api.Point
		want int
	}{
		{[]api.Point{less, more, {X: "0", Y: most}, {X: "0", Y: "-" + most}}, 0},
		{[]api.Point{less, more, {X: "0", Y: most}, {X: "1", Y: "-" + most}}, -1},
		{[]api.Point{less, more, {X: "0", Y: most}, {X: tiny, Y: "0"}}, 1},
		{[]api.Point{{X: "0", Y: "0"}, {X: tiny, Y: "0"}, {X: "0", Y: tiny}, {X: tiny, Y: tiny}}, 0},
		{[]api.Point{{X: "0", Y: "0"}, {X: tiny, Y: "0"}, {X: "0", Y: tiny}, {X: tiny, Y: most}}, -1},
		{[]api.Point{{X: "0", Y: "0"}, {X: most, Y: "0"}, {X: "0", Y: "1"}, {X: tiny, Y: "1"}}, 1},
	} {
		if got, e := delaunay.InCircle(c.l[0], c.l[1], c.l[2], c.l[3]); got != c.want || e != api.OK {
			t.Errorf("InCircle(%v) = %d, %d, not %d", c.l, got, e, c.want)
		}
		if center, squared, e := delaunay.Circle(c.l[0], c.l[1], c.l[2]); center != (api.Point{}) || squared != "" || e != api.ErrLimit {
			t.Errorf("Circle(%v) = %v, %s, %d", c.l, center, squared, e)
		}
	}
	// The squares on the way are too long.
	far := func(x, y api.Rational) api.Point {
		return api.Point{X: rational.Sub(most, x), Y: rational.Sub(y, most)}
	}
	center, squared, e := delaunay.Circle(far("0", "0"), far("2", "0"), far("0", "2"))
	if center != far("1", "1") || squared != "2" || e != api.OK {
		t.Errorf("Circle = %v, %s, %d", center, squared, e)
	}
}
