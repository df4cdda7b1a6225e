package polygon

import (
	"math/rand"
	"slices"
	"testing"

	"klippe/api"
	"klippe/rational"
	"klippe/samples"
	"klippe/vector"
)

func line(s string) vector.Line {
	n := samples.Vector(s)
	return vector.Line{A: n.X, B: n.Y, C: n.Z}
}

// opposite returns the line with the other left side.
func opposite(l vector.Line) vector.Line {
	return vector.Line{A: rational.Neg(l.A), B: rational.Neg(l.B), C: rational.Neg(l.C)}
}

func TestClip(t *testing.T) {
	for _, c := range []struct{ line, left, right string }{
		{"1 1 4", "0 4 4 0 4 4", "0 0 4 0 0 4"},
		{"1 0 1", "1 0 4 0 4 4 1 4", "0 0 1 0 1 4 0 4"}, {"0 -2 -1", "0 0 4 0 4 1/2 0 1/2", "0 1/2 4 1/2 4 4 0 4"},
		// The line does not meet the square, has one corner, or has one side.
		{"1 0 -1", "0 0 4 0 4 4 0 4", ""}, {"1 0 5", "", "0 0 4 0 4 4 0 4"}, {"1 1 0", "0 0 4 0 4 4 0 4", ""}, {"1 1 8", "", "0 0 4 0 4 4 0 4"}, {"0 1 0", "0 0 4 0 4 4 0 4", ""}, {"0 1 4", "", "0 0 4 0 4 4 0 4"}, {"1 0 0", "0 0 4 0 4 4 0 4", ""}, {"-1/3 0 0", "", "0 0 4 0 4 4 0 4"},
		// One corner, and a place of a side, or two neighbouring sides.
		{"2 -1 0", "0 0 4 0 4 4 2 4", "0 0 2 4 0 4"}, {"1 1 1", "0 1 1 0 4 0 4 4 0 4", "0 0 1 0 0 1"}, {"-1 -1 -7", "0 0 4 0 4 3 3 4 0 4", "3 4 4 3 4 4"},
	} {
		p, l := square(), line(c.line)
		part, found, e := Clip(p, l)
		if !Equal(part, points(c.left)) || found != (c.left != "") || e != api.OK {
			t.Errorf("Clip(%s) = %v, %t, %d", c.line, part, found, e)
		}
		left, right, e := Split(p, l)
		if !Equal(left, points(c.left)) || !Equal(right, points(c.right)) || e != api.OK {
			t.Errorf("Split(%s) = %v, %v, %d", c.line, left, right, e)
		}
		right, left, e = Split(p, opposite(l))
		if !Equal(left, points(c.left)) || !Equal(right, points(c.right)) || !Equal(p, square()) || e != api.OK {
			t.Errorf("Split(%s), turned round = %v, %v, %d", c.line, left, right, e)
		}
	}
}

func TestClipLimits(t *testing.T) {
	check := func(p []api.Point, l vector.Line) {
		t.Helper()
		part, found, e := Clip(p, l)
		left, right, e2 := Split(p, l)
		left2, right2, e3 := Split(p, opposite(l))
		if part != nil || found || left != nil || right != nil || left2 != nil || right2 != nil || e != api.ErrLimit || e2 != e || e3 != e {
			t.Errorf("Clip = %d, Split = %d and %d", e, e2, e3)
		}
	}
	// A corner that is cut off makes two of one.
	corner := vector.Line{A: "60", B: "-1", C: "1799/2"}
	check(bow(60), opposite(corner))
	if part, found, e := Clip(bow(60), corner); len(part) != 3 || !found || e != api.OK {
		t.Errorf("Clip = %v, %t, %d", part, found, e)
	}
	if part, found, e := Clip(bow(59), opposite(corner)); len(part) != 60 || !found || e != api.OK {
		t.Errorf("Clip = %v, %t, %d", part, found, e)
	}
	check(square(), vector.Line{A: most, B: "0", C: "1/11"})
	// The numbers on the way are too long, but the places have short ones.
	if part, found, e := Clip(square(), vector.Line{A: most, B: most, C: most}); !Equal(part, points("0 1 1 0 4 0 4 4 0 4")) || !found || e != api.OK {
		t.Errorf("Clip = %v, %t, %d", part, found, e)
	}
}

func TestClipErrors(t *testing.T) {
	check := func(p []api.Point, l vector.Line, want api.Errno) {
		t.Helper()
		part, found, e := Clip(p, l)
		left, right, e2 := Split(p, l)
		if part != nil || found || left != nil || right != nil || e != want || e2 != want {
			t.Errorf("%d and %d, not %d, for %v and %v", e, e2, want, p, l)
		}
	}
	empty := line("0 0 1")
	check(square(), empty, api.ErrZero)
	check(nil, empty, api.ErrSize)
	check(turned(square(), 1), empty, api.ErrOrder)
	for _, x := range notRight {
		for _, l := range []vector.Line{{A: x, B: "1", C: "1"}, {A: "1", B: x, C: "1"}, {A: "0", B: "0", C: x}} {
			check(square(), l, api.ErrNumber)
			check(points("0 0 0 4 4 4"), l, api.ErrForm)
		}
		for _, p := range spoilt(x) {
			check(p, empty, api.ErrNumber)
		}
	}
}

// TestClipLaws compares both parts with the hulls of the corners on their sides, and of the places where the line cuts the sides.
func TestClipLaws(t *testing.T) {
	r := rand.New(rand.NewSource(5))
	for range 2000 {
		p, l := anyPolygon(r), vector.Line{A: ratio(r.Intn(7)-3, 1+r.Intn(2)), B: ratio(r.Intn(7)-3, 1), C: ratio(r.Intn(9)-4, 1+r.Intn(3))}
		if r.Intn(3) == 0 {
			l, _ = vector.Through(p[0], p[r.Intn(len(p))])
		}
		if l.A == "0" && l.B == "0" || l.A == "" {
			continue
		}
		var kept [2][]api.Point
		for i, a := range p {
			b := p[(i+1)%len(p)]
			side := rational.Sign(rational.Sub(rational.Add(rational.Mul(l.A, a.X), rational.Mul(l.B, a.Y)), l.C))
			if side >= 0 {
				kept[0] = append(kept[0], a)
			}
			if side <= 0 {
				kept[1] = append(kept[1], a)
			}
			if k, found, _ := vector.Cut(l, a, b); found {
				at, _ := vector.Toward(a, b, k)
				kept[0], kept[1] = append(kept[0], at), append(kept[1], at)
			}
		}
		wantLeft, _ := Hull(kept[0])
		wantRight, _ := Hull(kept[1])
		left, right, e := Split(p, l)
		if !Equal(left, wantLeft) || !Equal(right, wantRight) || e != api.OK {
			t.Fatalf("Split(%v, %v) = %v, %v, %d", p, l, left, right, e)
		}
		part, found, e := Clip(p, l)
		if !Equal(part, left) || found != (len(left) > 0) || e != api.OK {
			t.Fatalf("Clip(%v, %v) = %v, %t, %d", p, l, part, found, e)
		}
		sum := api.Rational("0")
		for _, part := range [][]api.Point{left, right} {
			if len(part) > 0 {
				area, e := Area(part)
				if sum = rational.Add(sum, area); e != api.OK {
					t.Fatalf("Area(%v) = %d", part, e)
				}
			}
		}
		if area, _ := Area(p); area != sum {
			t.Fatalf("the parts of %v have the areas %s", p, sum)
		}
	}
}

func TestIntersect(t *testing.T) {
	for _, c := range []struct{ p, q, want string }{
		{"0 0 4 0 4 4 0 4", "2 2 6 2 6 6 2 6", "2 2 4 2 4 4 2 4"}, {"0 0 4 0 4 4 0 4", "1 1 2 1 1 2", "1 1 2 1 1 2"}, {"0 0 4 0 4 4 0 4", "-2 2 2 -2 6 2 2 6", "0 0 4 0 4 4 0 4"}, {"0 0 4 0 4 4 0 4", "-1 2 2 -1 5 2 2 5", "0 1 1 0 3 0 4 1 4 3 3 4 1 4 0 3"}, {"0 0 4 0 4 4 0 4", "0 0 4 0 4 4 0 4", "0 0 4 0 4 4 0 4"},
		// Nothing, a corner, a side, and a part of a side in common.
		{"0 0 4 0 4 4 0 4", "5 0 6 0 6 1", ""}, {"0 0 4 0 4 4 0 4", "4 4 5 4 5 5", ""}, {"0 0 4 0 4 4 0 4", "4 0 8 0 8 4 4 4", ""}, {"0 0 4 0 4 4 0 4", "1 4 2 4 3/2 9", ""}, {"0 0 4 0 4 4 0 4", "-4 8 0 4 4 8", ""}, {"0 0 4 0 4 4 0 4", "3 9 9 3 9 9", ""},
	} {
		p, q := points(c.p), points(c.q)
		part, found, e := Intersect(p, q)
		part2, found2, e2 := Intersect(q, p)
		if !Equal(part, points(c.want)) || found != (c.want != "") || e != api.OK {
			t.Errorf("Intersect(%s, %s) = %v, %t, %d", c.p, c.q, part, found, e)
		}
		if !Equal(part, part2) || found != found2 || e2 != api.OK || !Equal(p, points(c.p)) || !Equal(q, points(c.q)) {
			t.Errorf("Intersect(%s, %s) = %v, %t, %d", c.q, c.p, part2, found2, e2)
		}
	}
}

func TestIntersectLimits(t *testing.T) {
	check := func(p, q []api.Point, corners int, want api.Errno) {
		t.Helper()
		for range 2 {
			part, found, e := Intersect(p, q)
			if len(part) != corners || found != (corners > 0) || e != want {
				t.Errorf("Intersect = %d corners, %t, %d", len(part), found, e)
			}
			p, q = q, p
		}
	}
	upper := func(low int) []api.Point {
		return []api.Point{{X: "-9", Y: rational.Add(rational.Whole(low), "1/2")}, vector.At(99, low), vector.At(99, 9999), vector.At(-9, 9999)}
	}
	check(bow(60), upper(0), 0, api.ErrLimit)
	check(bow(60), upper(2), 60, api.OK)
	// The first side makes two of a corner, before the second one cuts off half of the polygon.
	check(bow(60), points("-1 3/2 30 -10 30 9999"), 33, api.OK)
	check(square(), []api.Point{{X: "-1", Y: "0"}, {X: "5", Y: "1/" + most}, point("5 9")}, 0, api.ErrLimit)
	longer := []api.Point{{X: "-" + most, Y: "0"}, {X: most, Y: "0"}, {X: "0", Y: most}}
	if part, found, e := Intersect(longer, longer); !Equal(part, longer) || !found || e != api.OK {
		t.Errorf("Intersect = %v, %t, %d", part, found, e)
	}
}

func TestIntersectErrors(t *testing.T) {
	check := func(p, q []api.Point, want api.Errno) {
		t.Helper()
		if part, found, e := Intersect(p, q); part != nil || found || e != want {
			t.Errorf("Intersect(%v, %v) = %v, %t, %d", p, q, part, found, e)
		}
	}
	bad := [][]api.Point{nil, bow(61), points("0 0 0 4 4 4"), turned(square(), 1), spoilt("x")[3]}
	for i, want := range []api.Errno{api.ErrSize, api.ErrLimit, api.ErrForm, api.ErrOrder, api.ErrNumber} {
		check(square(), bad[i], want)
		for _, q := range bad {
			check(bad[i], q, want)
		}
		check(bad[i], square(), want)
	}
}

// TestIntersectLaws compares with the hull of all corners that are in the other polygon, and of the places where sides cross.
func TestIntersectLaws(t *testing.T) {
	r := rand.New(rand.NewSource(6))
	for range 500 {
		p, q := anyPolygon(r), anyPolygon(r)
		common := slices.Concat(inside(p, q), inside(q, p))
		for i, a := range p {
			for j, c := range q {
				first, _ := vector.Through(a, p[(i+1)%len(p)])
				second, _ := vector.Through(c, q[(j+1)%len(q)])
				if at, found, _ := vector.Meet(first, second); found {
					common = append(common, inside(inside([]api.Point{at}, p), q)...)
				}
			}
		}
		want, _ := Hull(common)
		part, found, e := Intersect(p, q)
		again, _, _ := Intersect(q, p)
		itself, _, _ := Intersect(p, p)
		if !Equal(part, want) || found != (len(want) > 0) || e != api.OK || !Equal(again, part) || !Equal(itself, p) {
			t.Fatalf("Intersect(%v, %v) = %v, %t, %d", p, q, part, found, e)
		}
	}
}

// inside returns the points of a list that are not outside of a polygon.
func inside(l, p []api.Point) []api.Point {
	return slices.DeleteFunc(slices.Clone(l), func(x api.Point) bool {
		n, _ := Where(p, x)
		return n < 0
	})
}
