package lineation_test

import (
	"cmp"
	"math/rand"
	"testing"

	"klippe/api"
	"klippe/lineation"
	"klippe/rational"
)

func TestTrend(t *testing.T) {
	for s, want := range map[string]int{
		"2 -4 6": 7, "1 1 -1": 1, "-1 -1 1": 1,
		"0 1 -1": 0, "1/2 1 -1": 1, "1 0 -1": 2, "1 -1 -1": 3, "0 -1/3 -1": 4, "-1 -1 -1": 5, "-1 0 -1": 6, "-1 9 -1": 7,
		"0 1 1": 4, "1 1 1/9": 5, "1 0 1": 6, "1 -1 1": 7, "0 -1 1": 0, "-1 -9 1": 1, "-1 0 1": 2, "-1 1 1": 3,
		// The bearing of a level line is from west (without it) to east.
		"0 1 0": 0, "0 -1 0": 0, "1 1 0": 1, "-1 -1 0": 1, "1 0 0": 2, "-1 0 0": 2, "-1 1 0": 7, "1 -1 0": 7,
	} {
		if got, e := lineation.Trend(of(s)); got != want || e != api.OK {
			t.Errorf("Trend(%s) = %d, %d", s, got, e)
		}
	}
	for _, v := range []api.Vector{of("0 0 1"), of("0 0 -1/2"), {X: "0", Y: "0", Z: most}} {
		if got, e := lineation.Trend(v); got != 0 || e != api.ErrNone {
			t.Errorf("Trend(%v) = %d, %d", v, got, e)
		}
	}
	for _, c := range []struct {
		v    api.Vector
		want int
	}{{api.Vector{X: tiny, Y: most, Z: "-" + tiny}, 1}, {api.Vector{X: "-" + tiny, Y: most, Z: "-1"}, 7}, {api.Vector{X: most, Y: tiny, Z: "1"}, 5}} {
		if got, e := lineation.Trend(c.v); got != c.want || e != api.OK {
			t.Errorf("Trend(%v) = %d, %d", c.v, got, e)
		}
	}
}

func TestCompareTrend(t *testing.T) {
	// Each bearing comes behind those before it.
	bearings := [][]api.Vector{
		{of("0 1 -1"), of("0 -1/2 7"), of("0 3 0"), of("0 -3 0"), {X: "0", Y: most, Z: "-" + tiny}},
		{{X: tiny, Y: most, Z: "-1"}},
		{of("1 5 -1"), of("-1/5 -1 1"), of("1 5 0"), of("-1 -5 0")},
		{of("1 1 -1"), of("-2 -2 1/3"), of("4 4 0"), of("-4 -4 0")},
		{of("5 1 -1")},
		{of("1 0 -1"), of("-1/7 0 1"), of("1 0 0"), of("-9 0 0")},
		{of("5 -1 -1")},
		{of("1 -1 -1"), of("-3 3 1")},
		{of("1 -5 -1"), of("-1 5 1")},
		{of("0 -1 -1"), of("0 1 2")},
		{of("-1 -5 -1"), of("1 5 3")},
		{of("-5 -1 -1")},
		{of("-1 0 -1"), of("1/2 0 7")},
		{of("-5 1 -1"), of("5 -1 0"), of("-5 1 0")},
		{of("-1 1 -1"), of("1/2 -1/2 0")},
		{of("-1 5 -1")},
		{{X: "-" + tiny, Y: most, Z: "-1"}, {X: tiny, Y: "-" + most, Z: "0"}},
	}
	for i, bearing := range bearings {
		for j, other := range bearings {
			for _, u := range bearing {
				for _, v := range other {
					if got, e := lineation.CompareTrend(u, v); got != cmp.Compare(i, j) || e != api.OK {
						t.Errorf("CompareTrend(%v, %v) = %d, %d", u, v, got, e)
					}
				}
			}
		}
	}
	for _, c := range [][2]api.Vector{{of("0 0 1"), of("1 0 0")}, {of("1 0 0"), of("0 0 -3")}, {of("0 0 1"), of("0 0 1")}} {
		if got, e := lineation.CompareTrend(c[0], c[1]); got != 0 || e != api.ErrNone {
			t.Errorf("CompareTrend(%v) = %d, %d", c, got, e)
		}
	}
}

// TestTrendLaws compares trends with those of the downward form, and with the octants.
func TestTrendLaws(t *testing.T) {
	r := rand.New(rand.NewSource(3))
	for range 2000 {
		u, v := anyDirection(r), anyDirection(r)
		form, _ := lineation.Of(u)
		a, e1 := lineation.Trend(u)
		b, e2 := lineation.Trend(v)
		order, e := lineation.CompareTrend(u, v)
		if e != max(e1, e2) || e != api.OK && order != 0 {
			t.Fatalf("CompareTrend(%v, %v) = %d, %d", u, v, order, e)
		}
		if again, e := lineation.Trend(form); again != a || e != e1 {
			t.Fatalf("Trend(%v) = %d, %d, Trend(%v) = %d, %d", u, a, e1, form, again, e)
		}
		if e != api.OK {
			continue
		}
		if same, e := lineation.CompareTrend(u, form); same != 0 || e != api.OK {
			t.Fatalf("CompareTrend(%v, %v) = %d, %d", u, form, same, e)
		}
		if back, _ := lineation.CompareTrend(v, u); back != -order {
			t.Fatalf("CompareTrend(%v, %v) = %d, and back %d", u, v, order, back)
		}
		if a != b && order != cmp.Compare(a, b) || a == b && a%2 == 0 && order != 0 {
			t.Fatalf("CompareTrend(%v, %v) = %d with the octants %d and %d", u, v, order, a, b)
		}
		if want := octant(form); a != want {
			t.Fatalf("Trend(%v) = %d", u, a)
		}
	}
}

// octant finds the octant by signs.
func octant(form api.Vector) int {
	x, y := rational.Sign(form.X), rational.Sign(form.Y)
	return [3][3]int{{5, 6, 7}, {4, 8, 0}, {3, 2, 1}}[x+1][y+1]
}
