package polyline_test

import (
	"math/rand"
	"slices"
	"testing"

	"klippe/api"
	"klippe/polyline"
	"klippe/rational"
	"klippe/vector"
)

func TestSimplify(t *testing.T) {
	// The tip at 4 1/2 is within the flat triangle at 4 1.
	tip := "0 0 4 1 8 0 8 -20 7 -20 4 1/2 1 -20"
	for _, c := range []struct {
		c    string
		most api.Rational
		want string
	}{
		{"0 0 1 0 2 1 4 0", "1", "0 0 2 1 4 0"}, {"0 0 1 0 2 1 4 0", "4", "0 0 4 0"}, {"0 0 1 0 2 1 4 0", "39999/10000", "0 0 2 1 4 0"}, {"0 0 1 0 2 1 4 0", "99/100", "0 0 1 0 2 1 4 0"}, {"4 0 2 1 1 0 0 0", "1", "4 0 2 1 0 0"}, {"0 0 5 0", "1000", "0 0 5 0"},
		// With 0, only what is on a line goes.
		{"0 0 1 0 2 0 3 0 3 1 3 3", "0", "0 0 3 0 3 3"}, {"0 0 1 1/1000 2 0", "0", "0 0 1 1/1000 2 0"}, {"0 0 1 1/1000 2 0", "1/500", "0 0 2 0"}, {"0 0 1 1/1000 2 0", "1/501", "0 0 1 1/1000 2 0"}, {"0 0 2 0 2 2 0 2 0 1", "0", "0 0 2 0 2 2 0 2 0 1"},
		// Of several with the same area, the first one.
		{"0 0 1 1 2 0 3 1 4 0", "2", "0 0 3 1 4 0"}, {"0 0 1 0 2 1 3 1", "1", "0 0 3 1"}, {"0 0 0 1 1 1 1 2 2 2", "1", "0 0 1 2 2 2"}, {"2 2 1 2 1 1 0 1 0 0", "1", "2 2 0 1 0 0"}, {"0 0 0 1 1 1 1 2 2 2", "1/2", "0 0 0 1 1 1 1 2 2 2"},
		// Where another part is in the way, a point stays, and others go; then it may go as well.
		{tip, "8", tip}, {tip, "20", "0 0 4 1 8 0 7 -20 4 1/2 1 -20"}, {"0 0 4 4 8 0 9 -9 4 1", "35", "0 0 4 1"}, {"0 0 4 1 8 0 8 -9 4 0 0 -9", "8", "0 0 4 1 8 0 8 -9 4 0 0 -9"}, {"0 0 4 1 8 0 8 -9 4 -1/9 0 -9", "8", "0 0 8 0 8 -9 4 -1/9 0 -9"}, {"4 0 0 -9 -9 0 0 0 4 1 8 0", "8", "4 0 0 -9 -9 0 0 0 4 1 8 0"},
		{"2 1/9 0 0 6 1 12 0", "12", "2 1/9 12 0"}, {"2 1/9 0 0 6 1 12 0", "9", "2 1/9 6 1 12 0"},
	} {
		l := points(c.c)
		got, e := polyline.Simplify(l, c.most)
		if !slices.Equal(got, points(c.want)) || e != api.OK || !slices.Equal(got, naive(t, l, c.most, polyline.Check)) || !slices.Equal(l, points(c.c)) {
			t.Errorf("Simplify(%s, %s) = %v, %d, not %v", c.c, c.most, got, e, naive(t, l, c.most, polyline.Check))
		}
		got[0].X = "17"
		if !slices.Equal(l, points(c.c)) {
			t.Errorf("Simplify(%s, %s) shares its memory", c.c, c.most)
		}
	}
}

// naive leaves out points as the chapter says it; check tells what may be left.
func naive(t *testing.T, c []api.Point, most api.Rational, check func([]api.Point) api.Errno) []api.Point {
	t.Helper()
	for {
		best, least := -1, api.Rational("")
		for i := 1; i < len(c)-1; i++ {
			area, e := vector.Area(c[i-1], c[i], c[i+1])
			if e != api.OK {
				t.Fatalf("Area: %d", e)
			}
			area = rational.Abs(area)
			without := slices.Delete(slices.Clone(c), i, i+1)
			if rational.Compare(area, most) <= 0 && check(without) == api.OK && (best < 0 || rational.Compare(area, least) < 0) {
				best, least = i, area
			}
		}
		if best < 0 {
			return c
		}
		c = slices.Delete(slices.Clone(c), best, best+1)
	}
}

func TestSimplifyLaws(t *testing.T) {
	r := rand.New(rand.NewSource(7))
	bounds := []api.Rational{"0", "1/4", "1", "2", "4", "9", "100"}
	inTheWay := 0
	for range 300 {
		c := anyChain(r, 25)
		before := len(c)
		for _, most := range bounds {
			got, e := polyline.Simplify(c, most)
			if want := naive(t, c, most, polyline.Check); !slices.Equal(got, want) || e != api.OK || polyline.Check(got) != api.OK {
				t.Fatalf("Simplify(%v, %s) = %v, %d, not %v", c, most, got, e, want)
			}
			if again, _ := polyline.Simplify(got, most); !slices.Equal(again, got) {
				t.Fatalf("Simplify(%v, %s) = %v", got, most, again)
			}
			if len(got) > before {
				t.Fatalf("Simplify(%v, %s) has more points than with a lesser bound", c, most)
			}
			before = len(got)
			if free := naive(t, c, most, func([]api.Point) api.Errno { return api.OK }); !slices.Equal(got, free) {
				inTheWay++
			}
		}
	}
	if inTheWay < 20 {
		t.Errorf("other parts have been in the way %d times", inTheWay)
	}
}

func TestSimplifyErrors(t *testing.T) {
	check := func(c []api.Point, most api.Rational, want api.Errno) {
		t.Helper()
		if got, e := polyline.Simplify(c, most); len(got) != 0 || e != want {
			t.Errorf("Simplify(%v, %s) = %v, %d", c, most, got, e)
		}
	}
	for _, c := range wrong {
		check(c.c, "-1", c.chain)
		check(c.c, "x", c.chain)
	}
	for _, x := range notRight {
		check(points("0 0 1 1 2 0"), x, api.ErrNumber)
	}
	for _, x := range []api.Rational{"-1", "-1/1000", "-" + most} {
		check(points("0 0 1 1 2 0"), x, api.ErrRange)
	}
	// Areas are longer than a bound can be.
	long := []api.Point{point("0 0"), {X: most, Y: "1"}, {X: "1", Y: most}}
	if got, e := polyline.Simplify(long, most); !slices.Equal(got, long) || e != api.OK {
		t.Errorf("Simplify = %v, %d", got, e)
	}
	short := []api.Point{point("0 0"), {X: "1/" + most, Y: "0"}, {X: "0", Y: "1/" + most}}
	if got, e := polyline.Simplify(short, "1/"+most); !slices.Equal(got, []api.Point{short[0], short[2]}) || e != api.OK {
		t.Errorf("Simplify = %v, %d", got, e)
	}
	if got, e := polyline.Simplify(short, "0"); !slices.Equal(got, short) || e != api.OK {
		t.Errorf("Simplify = %v, %d", got, e)
	}
}

func TestSimplifyLongChains(t *testing.T) {
	if got, e := polyline.Simplify(bow(400), "1000000"); len(got) >= 400 || polyline.Check(got) != api.OK || e != api.OK {
		t.Errorf("Simplify: %d points, %d", len(got), e)
	}
	// Each turn of the spiral is in the way of the next one.
	c := spiral(400)
	got, e := polyline.Simplify(c, "100000000")
	if polyline.Check(got) != api.OK || e != api.OK || got[0] != c[0] || got[len(got)-1] != c[len(c)-1] {
		t.Errorf("Simplify: %v, %d", got, e)
	}
}
