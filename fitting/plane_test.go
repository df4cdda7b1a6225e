package fitting_test

import (
	"math/rand"
	"slices"
	"testing"

	"klippe/api"
	"klippe/fitting"
	"klippe/rational"
	"klippe/samples"
	"klippe/vector"
)

// fit makes a fit of texts: the slopes and the height, the greatest distance, and the multipliers.
func fit(plane, most, multipliers string) fitting.Fit {
	v := of(plane)
	return fitting.Fit{Slope: api.Point{X: v.X, Y: v.Y}, Height: v.Z, Most: api.Rational(most), Dual: api.Dual{Multipliers: samples.Numbers(multipliers)}}
}

func TestPlane(t *testing.T) {
	for _, c := range []struct {
		places string
		most   api.Rational
	}{
		{"0 0 0, 1 0 0, 0 1 0, 1 1 2", "1/2"},
		{"0 0 0", "0"},
		{"7 -5/3 1/2", "0"},
		{"1 2 3, 1 2 3", "0"},
		{"1 2 3, 1 2 5", "1"},
		{"1 2 3, 1 2 5, 1 2 9/2", "1"},
		{"1 2 3, 4 2 5", "0"},
		{"1 2 3, 1 7 5", "0"},
		{"1 2 3, 4 6 -8", "0"},
		{"0 0 0, 1 2 5, 3 1 -2", "0"},
		{"0 0 0, 1 0 0, 2 0 2", "1/2"},
		{"0 0 0, 1 1 0, 2 2 2", "1/2"},
		{"0 0 0, 0 1/2 0, 0 1 2", "1/2"},
		{"0 0 0, 4 0 0, 0 4 0, 1 1 3", "3/2"},
		{"0 0 0, 1 0 1, 0 1 2, 1 1 3, 5 7 19", "0"},
		{"0 0 0, 1 0 1, 0 1 2, 1 1 3, 5 7 19, 5 7 20", "1/2"},
		{"1 1 1, 1 1 1, 2 3 4, 2 3 6, 9 9 9", "1"},
	} {
		places := list(c.places)
		f, e := fitting.Plane(places)
		if f.Most != c.most || e != api.OK {
			t.Errorf("Plane(%s) = %v, %d", c.places, f, e)
		}
		if e := fitting.Verify(places, f); e != api.OK {
			t.Errorf("Plane(%s) = %v, but Verify: %d", c.places, f, e)
		}
	}
}

// TestLongPlane has fits with numbers that are too long, or only on the way.
func TestLongPlane(t *testing.T) {
	at := func(x, y, z api.Rational) api.Vector { return api.Vector{X: x, Y: y, Z: z} }
	third := rational.Sub(most, "3")
	for _, c := range []struct {
		places []api.Vector
		want   string
		e      api.Errno
	}{
		// A place alone, or places of the same height, have a horizontal plane.
		{[]api.Vector{at(most, tiny, "1/3")}, "0 0 1/3", api.OK},
		{[]api.Vector{at("-"+most, "7/"+most, "-"+most)}, "0 0 -" + string(most), api.OK},
		{[]api.Vector{at(most, "7", "1/3"), at(third, "-1", "1/3")}, "0 0 1/3", api.OK},
		{[]api.Vector{at(most, tiny, "1/3"), at("1/"+third, "-"+most, "1/3")}, "0 0 1/3", api.OK},
		{[]api.Vector{at(most, "2", "1/3"), at(tiny, "5", "1/3")}, "0 0 1/3", api.OK},
		{[]api.Vector{at("2", most, "1/3"), at("5", tiny, "1/3")}, "0 0 1/3", api.OK},
		{[]api.Vector{at("1/7", "0", "0"), at("1/7", "1", most)}, "0 " + string(most) + " 0", api.OK},
		{[]api.Vector{at("0", "0", "0"), at(most, "0", most), at("0", most, most)}, "1 1 0", api.OK},
		{[]api.Vector{at("0", "0", tiny), at(most, "0", tiny), at("0", third, tiny), at(third, most, tiny)}, "0 0 " + string(tiny), api.OK},
		{[]api.Vector{at("0", "0", "-"+most), at("1", "0", "-"+most), at("0", "1", most)}, "", api.ErrLimit},
		{[]api.Vector{at("0", "0", "0"), at(most, "0", tiny), at("0", "1", "0")}, "", api.ErrLimit},
		{[]api.Vector{at("0", "0", most), at("0", "0", tiny), at("1", "0", "0"), at("0", "1", "0")}, "", api.ErrLimit},
	} {
		f, e := fitting.Plane(c.places)
		if e != c.e || e != api.OK && !isNone(f) {
			t.Errorf("Plane(%v) = %v, %d", c.places, f, e)
		}
		if e != api.OK {
			continue
		}
		if e := fitting.Verify(c.places, f); e != api.OK {
			t.Errorf("Plane(%v) = %v, but Verify: %d", c.places, f, e)
		}
		if plane := (api.Vector{X: f.Slope.X, Y: f.Slope.Y, Z: f.Height}); c.want != "" && plane != of(c.want) {
			t.Errorf("Plane(%v) = %v", c.places, f)
		}
	}
}

// leastOf returns the least greatest distance of a plane from places with ints. It is that from some places for which a plane has no choice: multiples that add up to 0, with those of X and those of Y, tell how far the heights are apart.
func leastOf(places [][3]int) api.Rational {
	least := api.Rational("0")
	try := func(l [][3]int, multiples ...int) {
		sums, size, apart := [3]int{}, 0, 0
		for i, k := range multiples {
			sums = [3]int{sums[0] + k, sums[1] + k*l[i][0], sums[2] + k*l[i][1]}
			size += max(k, -k)
			apart += k * l[i][2]
		}
		if size > 0 && sums == [3]int{} {
			least = rational.Max(least, ratio(max(apart, -apart), size))
		}
	}
	area := func(a, b, c [3]int) int { return (b[0]-a[0])*(c[1]-a[1]) - (b[1]-a[1])*(c[0]-a[0]) }
	for i, a := range places {
		for j, b := range places[:i] {
			try([][3]int{a, b}, 1, -1)
			for k, c := range places[:j] {
				l := [][3]int{a, b, c}
				try(l, b[0]-c[0], c[0]-a[0], a[0]-b[0])
				try(l, b[1]-c[1], c[1]-a[1], a[1]-b[1])
				for _, d := range places[:k] {
					try(append(l, d), area(b, c, d), -area(a, c, d), area(a, b, d), -area(a, b, c))
				}
			}
		}
	}
	return least
}

func TestPlaneLaws(t *testing.T) {
	r := rand.New(rand.NewSource(5))
	for range 1500 {
		most := api.Rational("0")
		var ints [][3]int
		var places []api.Vector
		// Few different numbers make places on one line, or in one point of the map.
		width := 2 + r.Intn(6)
		for range 1 + r.Intn(8) {
			p := [3]int{r.Intn(width), r.Intn(width), r.Intn(9)}
			ints, places = append(ints, p), append(places, vector.Of(p[0], p[1], p[2]))
			f, e := fitting.Plane(places)
			if want := leastOf(ints); f.Most != want || e != api.OK {
				t.Fatalf("Plane(%v) = %v, %d, not %s", ints, f, e, want)
			}
			if rational.Compare(f.Most, most) < 0 {
				t.Fatalf("Plane(%v) = %v, and %s without the last place", ints, f, most)
			}
			most = f.Most
			checkFit(t, places, f)
		}
	}
}

// checkFit expects that a fit is right, by its parts.
func checkFit(t *testing.T, places []api.Vector, f fitting.Fit) {
	t.Helper()
	if e := fitting.Verify(places, f); e != api.OK {
		t.Fatalf("Verify(%v, %v) = %d", places, f, e)
	}
	l, e := fitting.Residuals(places, f)
	if e != api.OK || len(l) != len(places) {
		t.Fatalf("Residuals(%v, %v) = %v, %d", places, f, l, e)
	}
	var extreme []int
	for i, p := range places {
		height := rational.Sum(rational.Mul(f.Slope.X, p.X), rational.Mul(f.Slope.Y, p.Y), f.Height)
		if l[i] != rational.Sub(p.Z, height) || rational.Compare(rational.Abs(l[i]), f.Most) > 0 {
			t.Fatalf("Residuals(%v, %v) = %v", places, f, l)
		}
		if rational.Abs(l[i]) == f.Most {
			extreme = append(extreme, i)
		}
	}
	if got, e := fitting.Extreme(places, f); !slices.Equal(got, extreme) || e != api.OK || len(got) == 0 {
		t.Fatalf("Extreme(%v, %v) = %v, %d", places, f, got, e)
	}
}

// TestThreePlaces has fits without a distance.
func TestThreePlaces(t *testing.T) {
	r := rand.New(rand.NewSource(6))
	for range 500 {
		var places []api.Vector
		for range 3 {
			places = append(places, api.Vector{X: anyNumber(r), Y: anyNumber(r), Z: anyNumber(r)})
		}
		at := func(i int) api.Point { return api.Point{X: places[i].X, Y: places[i].Y} }
		if turn, _ := vector.Turn(at(0), at(1), at(2)); turn == 0 {
			continue
		}
		f, e := fitting.Plane(places)
		if f.Most != "0" || e != api.OK {
			t.Fatalf("Plane(%v) = %v, %d", places, f, e)
		}
		checkFit(t, places, f)
	}
}

func TestResiduals(t *testing.T) {
	for _, c := range []struct {
		places []api.Vector
		plane  string
		want   string
		e      api.Errno
	}{
		{list("0 0 0, 1 0 0, 0 1 0, 1 1 2"), "1 1 -1/2", "1/2 -1/2 -1/2 1/2", api.OK},
		{list("2 3 10"), "1/2 -1/3 7", "3", api.OK},
		{list("0 0 0"), "0 0 0", "0", api.OK},
		{[]api.Vector{{X: most, Y: most, Z: "1"}}, string("1 -1 " + tiny), string(rational.Sub("1", tiny)), api.OK},
		{[]api.Vector{{X: most, Y: most, Z: "0"}}, string(most + " -" + most + " 1"), "-1", api.OK},
		{[]api.Vector{of("0 0 0"), {X: most, Y: "0", Z: "0"}}, "2 0 0", "", api.ErrLimit},
		{list("0 0 0"), "x 0 0", "", api.ErrNumber},
		{list("0 0 0"), "0 2/2 0", "", api.ErrNumber},
		{list("0 0 0"), "0 0", "", api.ErrNumber},
	} {
		// What is told of the distance does not matter.
		l, e := fitting.Residuals(c.places, fit(c.plane, "x", "x"))
		if !slices.Equal(l, samples.Numbers(c.want)) || e != c.e {
			t.Errorf("Residuals(%v, %s) = %v, %d", c.places, c.plane, l, e)
		}
	}
}

func TestExtreme(t *testing.T) {
	places := list("0 0 0, 1 0 0, 0 1 0, 1 1 2")
	for _, c := range []struct {
		plane, most string
		want        []int
		e           api.Errno
	}{
		{"1 1 -1/2", "1/2", []int{0, 1, 2, 3}, api.OK},
		{"0 0 0", "2", []int{3}, api.OK},
		{"0 0 0", "0", []int{0, 1, 2}, api.OK},
		{"1 1 0", "1", []int{1, 2}, api.OK},
		{"1 1 0", "-1", nil, api.OK},
		{"1 1 0", "1/3", nil, api.OK},
		{"1 1 0", "", nil, api.ErrNumber},
		{"1 1 0", "2/2", nil, api.ErrNumber},
		{"1 1", "1", nil, api.ErrNumber},
	} {
		if l, e := fitting.Extreme(places, fit(c.plane, c.most, "x")); !slices.Equal(l, c.want) || e != c.e {
			t.Errorf("Extreme with %s and %s = %v, %d", c.plane, c.most, l, e)
		}
	}
	// The residual of the first place is too long, but it is no result.
	far := []api.Vector{{X: most, Y: "0", Z: "0"}, of("0 0 1")}
	if l, e := fitting.Extreme(far, fit("2 0 0", "1", "")); !slices.Equal(l, []int{1}) || e != api.OK {
		t.Errorf("Extreme = %v, %d", l, e)
	}
}

func TestVerify(t *testing.T) {
	const square, halves = "0 0 0, 1 0 0, 0 1 0, 1 1 2", "1/2 1/2 0 0 0 0 0 0"
	for _, c := range []struct {
		places, plane, most, multipliers string
		want                             api.Errno
	}{
		{square, "1 1 -1/2", "1/2", "1/4 0 0 1/4 0 1/4 1/4 0", api.OK},
		// A dual that bounds by 0 proves too little, another plane is too far away, and other multipliers do not bound.
		{square, "1 1 -1/2", "1/2", halves, api.ErrCertificate},
		{square, "1 1 0", "1/2", "1/4 0 0 1/4 0 1/4 1/4 0", api.ErrCertificate},
		{square, "1 1 0", "1", "1/4 0 0 1/4 0 1/4 1/4 0", api.ErrCertificate},
		{square, "1 1 -1/2", "1/3", "1/4 0 0 1/4 0 1/4 1/4 0", api.ErrCertificate},
		{square, "1 1 -1/2", "-1/2", "0 1/4 1/4 0 1/4 0 0 1/4", api.ErrCertificate},
		{square, "1 1 -1/2", "1/2", "0 1/4 1/4 0 1/4 0 0 1/4", api.ErrCertificate},
		{square, "1 1 -1/2", "1/2", "1/2 0 0 1/2 0 1/2 1/2 0", api.ErrCertificate},
		{square, "1 1 -1/2", "1/2", "1/4 0 0 1/4 1/4 0 1/4 0", api.ErrCertificate},
		{square, "1 1 -1/2", "1/2", "0 0 0 0 0 0 0 0", api.ErrCertificate},
		{square, "1 1 -1/2", "1/2", "1/4 0 0 1/4 0 1/4 1/4", api.ErrSize},
		{square, "1 1 -1/2", "1/2", "", api.ErrSize},
		{square, "1 1 -1/2", "1/2", "-1/4 0 0 1/4 0 1/4 1/4 0 0", api.ErrSize},
		{square, "1 1 -1/2", "1/2", "-1/4 0 0 1/4 0 1/4 1/4 x", api.ErrNumber},
		{square, "1 1 -1/2", "1/2", "-1/4 0 0 1/4 0 1/4 1/4 0", api.ErrRange},
		{square, "1 1 -1/2", "2/2", "-1/4", api.ErrNumber},
		{square, "1 x -1/2", "1/2", "-1/4", api.ErrNumber},
		{square, "1 1 -1/2 x", "", "-1/4", api.ErrNumber},
		// A plane with a choice, and different proofs.
		{"1 2 3, 1 2 5", "0 0 4", "1", "0 1/2 1/2 0", api.OK},
		{"1 2 3, 1 2 5", "1 -1 5", "1", "0 1/2 1/2 0", api.OK},
		{"1 2 3, 1 2 5", "1 -1 6", "1", "0 1/2 1/2 0", api.ErrCertificate},
		{"1 2 3, 1 2 5", "1 -1 6", "2", "0 1/2 1/2 0", api.ErrCertificate},
		{"0 0 0, 1 0 0", "0 5 0", "0", "1/2 1/2 0 0", api.OK},
		{"0 0 0, 1 0 0", "0 5 0", "0", "0 0 1/2 1/2", api.OK},
		{"0 0 0, 1 0 0", "0 5 0", "0", "1/4 1/4 1/4 1/4", api.OK},
		{"0 0 0, 1 0 0", "0 5 0", "0", "1/4 1/4 1/3 1/4", api.ErrCertificate},
		{"0 0 0, 1 0 0", "0 5 1", "0", "1/4 1/4 1/4 1/4", api.ErrCertificate},
		{"0 0 0, 0 x 0", "0 0 0", "0", "1/2", api.ErrNumber},
	} {
		if e := fitting.Verify(list(c.places), fit(c.plane, c.most, c.multipliers)); e != c.want {
			t.Errorf("Verify(%s) with %s, %s, %s = %d, not %d", c.places, c.plane, c.most, c.multipliers, e, c.want)
		}
	}
	// The bound itself is too long.
	same := []api.Vector{{X: "0", Y: "0", Z: tiny}, {X: "0", Y: "0", Z: most}}
	if e := fitting.Verify(same, fit("0 0 0", string(most), "0 1/2 1/2 0")); e != api.ErrLimit {
		t.Errorf("Verify = %d", e)
	}
}
