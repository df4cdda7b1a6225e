package attitude_test

import (
	"math/rand"
	"testing"

	"klippe/api"
	"klippe/attitude"
	"klippe/rational"
)

func TestOf(t *testing.T) {
	for _, c := range []struct {
		d       string
		octant  int
		tangent api.Rational
	}{
		{"0 1", 0, "0"}, {"1 2", 0, "1/2"}, {"99 100", 0, "99/100"}, {"1 1", 1, "1"}, {"2 1", 1, "1/2"}, {"100 1", 1, "1/100"},
		{"1 0", 2, "0"}, {"2 -1", 2, "1/2"}, {"100 -99", 2, "99/100"}, {"1 -1", 3, "1"}, {"1 -2", 3, "1/2"}, {"1/7 -3/2", 3, "2/21"},
		{"0 -1", 4, "0"}, {"-1 -2", 4, "1/2"}, {"-99 -100", 4, "99/100"}, {"-1 -1", 5, "1"}, {"-2 -1", 5, "1/2"}, {"-100 -1", 5, "1/100"},
		{"-1 0", 6, "0"}, {"-2 1", 6, "1/2"}, {"-100 99", 6, "99/100"}, {"-1 1", 7, "1"}, {"-1 2", 7, "1/2"}, {"-1 100", 7, "1/100"},
	} {
		got, e := attitude.Of(point(c.d))
		if want := (attitude.Compass{Octant: c.octant, Tangent: c.tangent}); got != want || e != api.OK {
			t.Errorf("Of(%s) = %v, %d", c.d, got, e)
		}
	}
	for _, d := range wrongPoints() {
		if got, e := attitude.Of(d); got != (attitude.Compass{}) || e != api.ErrNumber {
			t.Errorf("Of(%v) = %v, %d", d, got, e)
		}
	}
	if got, e := attitude.Of(point("0 0")); got != (attitude.Compass{}) || e != api.ErrZero {
		t.Errorf("Of(0 0) = %v, %d", got, e)
	}
	for _, c := range []struct {
		d    api.Point
		want attitude.Compass
		e    api.Errno
	}{
		{api.Point{X: most, Y: "1"}, attitude.Compass{Octant: 1, Tangent: "1/" + most}, api.OK},
		{api.Point{X: "1", Y: "-" + most}, attitude.Compass{Octant: 3, Tangent: "1/" + most}, api.OK},
		{api.Point{X: most, Y: "1/2"}, attitude.Compass{}, api.ErrLimit},
		{api.Point{X: "-1/" + most, Y: "2"}, attitude.Compass{}, api.ErrLimit},
		{api.Point{X: "1/" + most, Y: "-2/" + most}, attitude.Compass{Octant: 3, Tangent: "1/2"}, api.OK},
		{api.Point{X: "0", Y: "-" + most}, attitude.Compass{Octant: 4, Tangent: "0"}, api.OK},
	} {
		if got, e := attitude.Of(c.d); got != c.want || e != c.e {
			t.Errorf("Of(%v) = %v, %d", c.d, got, e)
		}
	}
}

// isAfter reports whether a direction is reached behind another one, clockwise from the north.
func isAfter(a, b api.Point) bool {
	isWest := func(d api.Point) bool {
		return rational.Sign(d.X) < 0 || d.X == "0" && rational.Sign(d.Y) < 0
	}
	if isWest(a) != isWest(b) {
		return isWest(a)
	}
	return rational.Compare(rational.Mul(a.X, b.Y), rational.Mul(a.Y, b.X)) > 0
}

func TestOfLaws(t *testing.T) {
	r := rand.New(rand.NewSource(3))
	equal := 0
	for range 3000 {
		d, f := anyDirection(r), anyDirection(r)
		a, e1 := attitude.Of(d)
		b, e2 := attitude.Of(f)
		want := 0
		if isAfter(d, f) {
			want = 1
		} else if isAfter(f, d) {
			want = -1
		} else {
			equal++
		}
		order, e3 := attitude.Before(a, b)
		if order != want || (a == b) != (want == 0) || max(e1, e2, e3) != api.OK {
			t.Fatalf("%v and %v are %v and %v, and compared %d, %d", d, f, a, b, order, e3)
		}
		k := ratio(1+r.Intn(9), 1+r.Intn(5))
		multiple, e := attitude.Of(api.Point{X: rational.Mul(k, d.X), Y: rational.Mul(k, d.Y)})
		if multiple != a || e != api.OK {
			t.Fatalf("Of(%s times %v) = %v, %d", k, d, multiple, e)
		}
	}
	if equal < 50 {
		t.Errorf("only %d directions were equal", equal)
	}
}

func TestBefore(t *testing.T) {
	of := func(octant int, tangent api.Rational) attitude.Compass {
		return attitude.Compass{Octant: octant, Tangent: tangent}
	}
	ring := []attitude.Compass{
		of(0, "0"), of(0, "1/2"), of(0, "99/100"), of(1, "1"), of(1, "1/2"), of(1, "1/100"), of(2, "0"), of(2, "3/4"), of(3, "1"), of(3, "1/2"),
		of(4, "0"), of(4, "1/3"), of(5, "1"), of(5, "1/3"), of(6, "0"), of(6, "1/5"), of(7, "1"), of(7, "1/5"), of(7, "1/"+most),
	}
	for i, a := range ring {
		for j, b := range ring {
			want := 0
			if i < j {
				want = -1
			} else if i > j {
				want = 1
			}
			if got, e := attitude.Before(a, b); got != want || e != api.OK {
				t.Errorf("Before(%v, %v) = %d, %d", a, b, got, e)
			}
		}
	}
	right := of(0, "0")
	for _, c := range []struct {
		a attitude.Compass
		e api.Errno
	}{
		{of(-1, "1/2"), api.ErrRange}, {of(8, "1/2"), api.ErrRange}, {of(-1, "x"), api.ErrRange}, {of(8, "2"), api.ErrRange}, {attitude.Compass{}, api.ErrNumber},
		{of(0, "1"), api.ErrRange}, {of(2, "1"), api.ErrRange}, {of(0, "3/2"), api.ErrRange}, {of(6, "-1/2"), api.ErrRange},
		{of(1, "0"), api.ErrRange}, {of(7, "0"), api.ErrRange}, {of(1, "-1/2"), api.ErrRange}, {of(7, "101/100"), api.ErrRange}, {of(3, most), api.ErrRange},
	} {
		if got, e := attitude.Before(c.a, right); got != 0 || e != c.e {
			t.Errorf("Before(%v) = %d, %d", c.a, got, e)
		}
		if got, e := attitude.Before(right, c.a); got != 0 || e != c.e {
			t.Errorf("Before(.., %v) = %d, %d", c.a, got, e)
		}
		if got, e := attitude.Before(c.a, of(9, "x")); got != 0 || e != c.e {
			t.Errorf("Before(%v, ..) = %d, %d", c.a, got, e)
		}
		if got, e := attitude.Before(of(4, "x"), c.a); got != 0 || e != api.ErrNumber {
			t.Errorf("Before(.., %v) = %d, %d", c.a, got, e)
		}
	}
	for _, x := range notRight {
		for octant := range 8 {
			if got, e := attitude.Before(of(octant, x), right); got != 0 || e != api.ErrNumber {
				t.Errorf("Before(%s) = %d, %d", x, got, e)
			}
		}
	}
}
