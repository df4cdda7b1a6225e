package polyline_test

import (
	"math/rand"
	"slices"
	"testing"

	"klippe/api"
	"klippe/polyline"
	"klippe/rational"
	"klippe/surd"
	"klippe/vector"
)

func crossing(i, j int, at string) polyline.Crossing {
	return polyline.Crossing{I: i, J: j, At: point(at)}
}

// lists makes lists of points, which are separated by nil.
func lists(l ...string) [][]api.Point {
	var all [][]api.Point
	for _, s := range l {
		all = append(all, points(s))
	}
	return all
}

func sameLists(a, b [][]api.Point) bool { return slices.EqualFunc(a, b, slices.Equal[[]api.Point]) }

func TestCrossings(t *testing.T) {
	for _, c := range []struct {
		a, b  string
		want  []polyline.Crossing
		parts [][]api.Point
	}{
		{"0 0 4 0", "1 -1 1 1 3 1 3 -1", []polyline.Crossing{crossing(0, 0, "1 0"), crossing(0, 2, "3 0")}, lists("0 0 1 0", "1 0 3 0", "3 0 4 0")},
		{"4 0 0 0", "1 -1 1 1 3 1 3 -1", []polyline.Crossing{crossing(0, 0, "1 0"), crossing(0, 2, "3 0")}, lists("4 0 3 0", "3 0 1 0", "1 0 0 0")},
		{"1 -1 1 1 3 1 3 -1", "0 0 4 0", []polyline.Crossing{crossing(0, 0, "1 0"), crossing(2, 0, "3 0")}, lists("1 -1 1 0", "1 0 1 1 3 1 3 0", "3 0 3 -1")},
		// Nothing in common.
		{"0 0 4 0", "1 1 3 1 5 0", nil, lists("0 0 4 0")}, {"0 0 4 0 4 4", "1 1 3 3", nil, lists("0 0 4 0 4 4")}, {"0 0 4 0", "5 0 6 0", nil, lists("0 0 4 0")}, {"0 0 2 2", "3 3 4 5", nil, lists("0 0 2 2")},
		// Places at points of a chain come once for each segment that has them.
		{"0 0 2 0 4 0", "2 -1 2 1", []polyline.Crossing{crossing(0, 0, "2 0"), crossing(1, 0, "2 0")}, lists("0 0 2 0", "2 0 4 0")},
		{"0 0 4 0", "2 -1 2 0 3 1", []polyline.Crossing{crossing(0, 0, "2 0"), crossing(0, 1, "2 0")}, lists("0 0 2 0", "2 0 4 0")},
		{"0 0 2 0 4 1", "2 -1 2 0 1 3", []polyline.Crossing{crossing(0, 0, "2 0"), crossing(0, 1, "2 0"), crossing(1, 0, "2 0"), crossing(1, 1, "2 0")}, lists("0 0 2 0", "2 0 4 1")},
		// The ends of a chain divide nothing of it, but the other one.
		{"0 0 4 0", "0 -1 0 1", []polyline.Crossing{crossing(0, 0, "0 0")}, lists("0 0 4 0")}, {"0 0 4 0", "4 0 5 5", []polyline.Crossing{crossing(0, 0, "4 0")}, lists("0 0 4 0")}, {"0 0 4 0", "4 0 5 0", []polyline.Crossing{crossing(0, 0, "4 0")}, lists("0 0 4 0")}, {"4 0 5 0", "0 0 4 0", []polyline.Crossing{crossing(0, 0, "4 0")}, lists("4 0 5 0")}, {"5 0 4 0", "0 0 4 0", []polyline.Crossing{crossing(0, 0, "4 0")}, lists("5 0 4 0")}, {"4 0 0 0", "4 0 5 0", []polyline.Crossing{crossing(0, 0, "4 0")}, lists("4 0 0 0")},
		{"0 0 4 0", "0 0 1 1 2 0 3 1 4 0", []polyline.Crossing{crossing(0, 0, "0 0"), crossing(0, 1, "2 0"), crossing(0, 2, "2 0"), crossing(0, 3, "4 0")}, lists("0 0 2 0", "2 0 4 0")},
		// Fractions, and places on one segment that are not in the order of the other chain's.
		{"0 0 3 1", "0 1 1 0", []polyline.Crossing{crossing(0, 0, "3/4 1/4")}, lists("0 0 3/4 1/4", "3/4 1/4 3 1")},
		{"0 0 0 8 9 9", "1 5 -1 5 -1 2 1 2 2 10", []polyline.Crossing{crossing(0, 0, "0 5"), crossing(0, 2, "0 2"), crossing(1, 3, "126/71 582/71")}, lists("0 0 0 2", "0 2 0 5", "0 5 0 8 126/71 582/71", "126/71 582/71 9 9")},
		{"0 8 0 0 9 -9", "1 5 -1 5 -1 2 1 2", []polyline.Crossing{crossing(0, 0, "0 5"), crossing(0, 2, "0 2")}, lists("0 8 0 5", "0 5 0 2", "0 2 0 0 9 -9")},
	} {
		a, b := points(c.a), points(c.b)
		got, e1 := polyline.Crossings(a, b)
		parts, e2 := polyline.Split(a, b)
		if !slices.Equal(got, c.want) || !sameLists(parts, c.parts) || e1 != api.OK || e2 != api.OK {
			t.Errorf("Crossings(%s, %s) = %v, %d, Split = %v, %d", c.a, c.b, got, e1, parts, e2)
		}
		if !slices.Equal(a, points(c.a)) || !slices.Equal(b, points(c.b)) {
			t.Errorf("Crossings(%s, %s) changes them", c.a, c.b)
		}
	}
}

func TestCrossingErrors(t *testing.T) {
	check := func(a, b []api.Point, want api.Errno) {
		t.Helper()
		l, e1 := polyline.Crossings(a, b)
		parts, e2 := polyline.Split(a, b)
		if len(l) != 0 || len(parts) != 0 || e1 != want || e2 != want {
			t.Errorf("Crossings(%v, %v) = %v, %d, Split = %v, %d", a, b, l, e1, parts, e2)
		}
	}
	for _, c := range []struct{ a, b string }{{"0 0 4 0", "1 0 2 0"}, {"0 0 4 0", "-1 0 5 0"}, {"0 0 4 0", "4 0 0 0"}, {"0 0 4 0", "3 0 5 0"}, {"0 0 4 0", "0 0 1/9 0"}, {"0 0 4 2", "2 1 6 3"}, {"0 0 4 0 4 4", "1 1 5 1 4 2 4 9"}, {"0 0 4 0", "1 -1 1 1 2 0 3 0"}} {
		check(points(c.a), points(c.b), api.ErrForm)
		check(points(c.b), points(c.a), api.ErrForm)
	}
	right := points("0 0 4 0")
	for _, c := range wrong {
		check(c.c, right, c.chain)
		check(right, c.c, c.chain)
		check(c.c, points("0 0 0 0"), c.chain)
		check(points("0 0 0 0"), c.c, api.ErrZero)
	}
	// The place has too long numbers; overlapping comes first.
	a, b := []api.Point{point("0 0"), {X: most, Y: "1"}}, []api.Point{{X: "0", Y: "1"}, {X: rational.Sub(most, "1"), Y: "0"}}
	check(a, b, api.ErrLimit)
	check(a, append(b, point("0 -1"), point("0 -2"), point("-1 -2"), api.Point{X: "-" + most, Y: "-1"}, point("0 0")), api.ErrLimit)
	check(append([]api.Point{point("0 -1")}, a...), append([]api.Point{point("0 -2"), point("0 -1/2"), point("-1 -1/2")}, b...), api.ErrForm)
	// Only one number of the place is too long.
	a, b = points("0 0 1 0"), []api.Point{point("0 -1"), {X: "1/" + most, Y: "2"}}
	check(a, b, api.ErrLimit)
	check(b, a, api.ErrLimit)
	for _, c := range [][]api.Point{a, b} {
		for i, p := range c {
			c[i] = api.Point{X: p.Y, Y: p.X}
		}
	}
	check(a, b, api.ErrLimit)
	check(b, a, api.ErrLimit)
	// Here the place is right, and only the numbers on the way are long.
	a, b = []api.Point{{X: "-" + most, Y: "-" + most}, {X: most, Y: most}}, []api.Point{{X: "-" + most, Y: most}, {X: most, Y: "-" + most}}
	if l, e := polyline.Crossings(a, b); !slices.Equal(l, []polyline.Crossing{crossing(0, 0, "0 0")}) || e != api.OK {
		t.Errorf("Crossings = %v, %d", l, e)
	}
}

// TestCrossingLaws goes through all pairs of segments.
func TestCrossingLaws(t *testing.T) {
	r := rand.New(rand.NewSource(4))
	counts := map[api.Errno]int{}
	for range 1500 {
		a, b := anyChain(r, r.Intn(8)), anyChain(r, r.Intn(8))
		var want []polyline.Crossing
		overlap := false
		for i := range len(a) - 1 {
			for j := range len(b) - 1 {
				places, at := meet(a[i], a[i+1], b[j], b[j+1])
				overlap = overlap || places > 1
				if places == 1 {
					want = append(want, polyline.Crossing{I: i, J: j, At: at})
				}
			}
		}
		wanted := api.OK
		if overlap {
			want, wanted = nil, api.ErrForm
		}
		got, e := polyline.Crossings(a, b)
		if !slices.Equal(got, want) || e != wanted {
			t.Fatalf("Crossings(%v, %v) = %v, %d, not %v, %d", a, b, got, e, want, wanted)
		}
		parts, e := polyline.Split(a, b)
		if e != wanted || overlap != (len(parts) == 0) {
			t.Fatalf("Split(%v, %v) = %v, %d", a, b, parts, e)
		}
		if !overlap {
			checkParts(t, a, parts, want)
		}
		counts[e] += len(parts)
	}
	if counts[api.OK] < 3000 {
		t.Errorf("there are only %d parts", counts[api.OK])
	}
}

// checkParts puts the parts together again, and looks for the places: they are all ends of parts, and none is within one.
func checkParts(t *testing.T, a []api.Point, parts [][]api.Point, places []polyline.Crossing) {
	t.Helper()
	isPlace := map[api.Point]bool{}
	for _, c := range places {
		isPlace[c.At] = true
	}
	isOld := map[api.Point]bool{}
	for _, p := range a {
		isOld[p] = true
	}
	whole := []api.Point{a[0]}
	var lengths []surd.Surd
	for i, part := range parts {
		if e := polyline.Check(part); e != api.OK || part[0] != whole[len(whole)-1] || i > 0 && !isPlace[part[0]] {
			t.Fatalf("%v is divided in %v", a, parts)
		}
		for p := range isPlace {
			if is, _ := polyline.Has(part, p); is && p != part[0] && p != part[len(part)-1] {
				t.Fatalf("%v is divided in %v, though it meets the other chain in %v", a, parts, p)
			}
		}
		whole = append(whole, part[1:]...)
		lengths = append(lengths, lengthOf(t, part))
	}
	sum, _ := surd.Sum(lengths)
	if is, _ := surd.Equal(sum, lengthOf(t, a)); !is {
		t.Fatalf("%v is divided in %v, with another length", a, parts)
	}
	if rest := slices.DeleteFunc(whole, func(p api.Point) bool { return !isOld[p] }); !slices.Equal(rest, a) {
		t.Fatalf("%v is divided in %v", a, parts)
	}
	for _, part := range parts {
		part[0].X, part[len(part)-1].X = "17", "18"
	}
	for _, part := range parts {
		if part[0].X != "17" || part[len(part)-1].X != "18" || isOld[part[0]] {
			t.Fatalf("the parts of %v share their memory", a)
		}
	}
}

// TestManyCrossings has chains each of whose segments meets all of the other one.
func TestManyCrossings(t *testing.T) {
	var a, b []api.Point
	for i := range 80 {
		a = append(a, vector.At(i, 1000-2000*(i%2)))
		b = append(b, vector.At(1000-2000*(i%2), i))
	}
	l, e1 := polyline.Crossings(a, b)
	parts, e2 := polyline.Split(a, b)
	if len(l) != 79*79 || len(parts) != 79*79+1 || e1 != api.OK || e2 != api.OK {
		t.Errorf("%d crossings, %d, and %d parts, %d", len(l), e1, len(parts), e2)
	}
	inOrder := func(x, y polyline.Crossing) int { return 79*(x.I-y.I) + x.J - y.J }
	if !slices.IsSortedFunc(l, inOrder) {
		t.Error("the crossings are not in order")
	}
}
