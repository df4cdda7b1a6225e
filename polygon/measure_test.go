package polygon

import (
	"math/rand"
	"slices"
	"testing"

	"klippe/api"
	"klippe/rational"
	"klippe/vector"
)

func TestArea(t *testing.T) {
	for s, want := range map[string]api.Rational{"0 0 4 0 4 4 0 4": "32", "0 0 1 0 0 1": "1", "-1/2 -1/2 1/2 -1/2 0 1/3": "5/6", "100 100 101 100 101 101": "1"} {
		if a, e := Area(points(s)); a != want || e != api.OK {
			t.Errorf("Area(%s) = %s, %d", s, a, e)
		}
	}
	if a, e := Area([]api.Point{point("0 0"), {X: most, Y: "0"}, {X: "0", Y: "2"}}); a != "" || e != api.ErrLimit {
		t.Errorf("Area = %s, %d", a, e)
	}
	// Only on the way are these numbers too long.
	more := most[1:]
	less := rational.Sub(more, "1")
	p := []api.Point{{X: less, Y: less}, {X: more, Y: less}, {X: more, Y: more}}
	if a, e := Area(p); a != "1" || e != api.OK {
		t.Errorf("Area = %s, %d", a, e)
	}
	if c, e := Centroid(p); c != (api.Point{X: rational.Add(less, "2/3"), Y: rational.Add(less, "1/3")}) || e != api.OK {
		t.Errorf("Centroid = %v, %d", c, e)
	}
}

func TestCentroid(t *testing.T) {
	for s, want := range map[string]string{"0 0 4 0 4 4 0 4": "2 2", "0 0 3 0 0 3": "1 1", "0 0 1 0 1/2 1/3": "1/2 1/9", "0 0 4 0 2 2 0 2": "14/9 8/9", "-3 0 0 -3 3 0 0 3": "0 0"} {
		if c, e := Centroid(points(s)); c != point(want) || e != api.OK {
			t.Errorf("Centroid(%s) = %v, %d", s, c, e)
		}
	}
	for _, p := range [][]api.Point{{point("0 0"), {X: "1", Y: "0"}, {X: "0", Y: "1/" + most}}, {point("0 0"), {X: "1/" + most, Y: "0"}, {X: "1", Y: "1"}}} {
		if c, e := Centroid(p); c != (api.Point{}) || e != api.ErrLimit {
			t.Errorf("Centroid(%v) = %v, %d", p, c, e)
		}
	}
}

func TestBox(t *testing.T) {
	for s, want := range map[string][2]string{"0 0 4 0 4 4 0 4": {"0 0", "4 4"}, "-1 1/2 0 -1/3 7 5": {"-1 -1/3", "7 5"}, "0 3 2 -1 5 0 3 9/2": {"0 -1", "5 9/2"}} {
		if low, high, e := Box(points(s)); low != point(want[0]) || high != point(want[1]) || e != api.OK {
			t.Errorf("Box(%s) = %v, %v, %d", s, low, high, e)
		}
	}
}

// TestMeasureErrors hands wrong polygons to the functions with one polygon alone.
func TestMeasureErrors(t *testing.T) {
	check := func(p []api.Point, want api.Errno) {
		a, e1 := Area(p)
		c, e2 := Centroid(p)
		low, high, e3 := Box(p)
		if a != "" || c != (api.Point{}) || low != c || high != c || e1 != want || e2 != want || e3 != want {
			t.Errorf("%d, %d, %d for %v", e1, e2, e3, p)
		}
	}
	check(nil, api.ErrSize)
	check(bow(61), api.ErrLimit)
	check(points("0 0 0 4 4 4"), api.ErrForm)
	check(turned(square(), 2), api.ErrOrder)
	for _, x := range notRight {
		for _, p := range spoilt(x) {
			check(p, api.ErrNumber)
		}
	}
}

// TestMeasureLaws adds up triangles from the first corner.
func TestMeasureLaws(t *testing.T) {
	r := rand.New(rand.NewSource(4))
	for range 500 {
		p := anyPolygon(r)
		before := slices.Clone(p)
		total, weighted := api.Rational("0"), vector.Of(0, 0, 0)
		for i := 2; i < len(p); i++ {
			area, _ := vector.Area(p[0], p[i-1], p[i])
			total = rational.Add(total, area)
			middle := api.Vector{X: rational.Sum(p[0].X, p[i-1].X, p[i].X), Y: rational.Sum(p[0].Y, p[i-1].Y, p[i].Y), Z: "0"}
			part, _ := vector.Scale(middle, area)
			weighted, _ = vector.Add(weighted, part)
		}
		if a, e := Area(p); a != total || rational.Sign(a) <= 0 || e != api.OK {
			t.Fatalf("Area(%v) = %s, %d", p, a, e)
		}
		share, _ := rational.Div("1/3", total)
		centre, _ := vector.Scale(weighted, share)
		c, e := Centroid(p)
		if c != (api.Point{X: centre.X, Y: centre.Y}) || e != api.OK {
			t.Fatalf("Centroid(%v) = %v, %d", p, c, e)
		}
		if n, _ := Where(p, c); n != 1 {
			t.Fatalf("%v is at %d of %v", c, n, p)
		}
		low, high, e := Box(p)
		inBox := func(a api.Point) bool {
			return rational.Compare(low.X, a.X) <= 0 && rational.Compare(low.Y, a.Y) <= 0 && rational.Compare(a.X, high.X) <= 0 && rational.Compare(a.Y, high.Y) <= 0
		}
		onBox := func(a api.Point) int {
			n := 0
			for _, touches := range []bool{a.X == low.X, a.Y == low.Y, a.X == high.X, a.Y == high.Y} {
				if touches {
					n++
				}
			}
			return n
		}
		touching := 0
		for _, a := range p {
			if !inBox(a) {
				t.Fatalf("%v is not in the box of %v", a, p)
			}
			touching += onBox(a)
		}
		if e != api.OK || touching < 4 || !Equal(p, before) {
			t.Fatalf("Box(%v) = %v, %v, %d", p, low, high, e)
		}
	}
}
