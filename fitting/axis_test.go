package fitting_test

import (
	"math/rand"
	"slices"
	"strings"
	"testing"

	"klippe/api"
	"klippe/fitting"
	"klippe/lineation"
	"klippe/rational"
	"klippe/samples"
	"klippe/vector"
)

func TestOff(t *testing.T) {
	for _, c := range []struct {
		axis, normal api.Vector
		want         api.Rational
		e            api.Errno
	}{
		{of("1 0 0"), of("1 0 1"), "1/2", api.OK},
		{of("1 0 0"), of("0 1 1"), "0", api.OK},
		{of("1 2 2"), of("-2 -4 -4"), "1", api.OK},
		{of("1 1 1"), of("1 0 0"), "1/3", api.OK},
		{of("1/2 -1/3 0"), of("0 2/7 0"), "4/13", api.OK},
		// What is on the way can be too long.
		{times(most, of("1 1 0")), times(tiny, of("0 -3 4")), "9/50", api.OK},
		{api.Vector{X: most, Y: most, Z: "0"}, api.Vector{X: "0", Y: "0", Z: most}, "0", api.OK},
		{api.Vector{X: most, Y: "1", Z: "0"}, of("1 0 0"), "", api.ErrLimit},
		{of("0 0 0"), of("x 0 0"), "", api.ErrZero},
		{of("x 0 0"), of("0 0 0"), "", api.ErrNumber},
		{of("1 0 0"), of("0 0 0"), "", api.ErrZero},
		{of("1 0 0"), of("0 0 1/1"), "", api.ErrNumber},
	} {
		if got, e := fitting.Off(c.axis, c.normal); got != c.want || e != c.e {
			t.Errorf("Off(%v, %v) = %s, %d", c.axis, c.normal, got, e)
		}
	}
	for _, x := range samples.NotRight() {
		for _, v := range []api.Vector{{X: x, Y: "0", Z: "1"}, {X: "0", Y: x, Z: "1"}, {X: "1", Y: "0", Z: x}} {
			first, e := fitting.Off(v, of("0 0 0"))
			second, f := fitting.Off(of("1 0 0"), v)
			if first != "" || second != "" || e != api.ErrNumber || f != api.ErrNumber {
				t.Errorf("Off with %v: %d, %d", v, e, f)
			}
		}
	}
}

func TestTotal(t *testing.T) {
	long := api.Vector{X: most, Y: "1", Z: "0"}
	for _, c := range []struct {
		axis    api.Vector
		normals []api.Vector
		want    api.Rational
		e       api.Errno
	}{
		{of("1 0 0"), list("1 0 1"), "1/2", api.OK},
		{of("1 0 0"), list("1 0 1, 0 1 1"), "1/2", api.OK},
		{of("1 0 0"), list("1 0 1, 1 1 1, -2 0 0"), "11/6", api.OK},
		{of("0 -1/2 0"), list("0 3 4, 0 4 -3"), "1", api.OK},
		{of("1 1 1"), list("1 -1 0, 0 1/2 -1/2"), "0", api.OK},
		// Both misfits are too long, but they add up to 1.
		{long, list("1 0 0, 0 1 0"), "1", api.OK},
		{long, list("1 0 0, 1 0 0"), "", api.ErrLimit},
		{times(tiny, of("3 0 4")), []api.Vector{times(most, of("1 0 0")), times(most, of("0 1 1"))}, "17/25", api.OK},
		{of("0 0 0"), nil, "", api.ErrZero},
		{of("0 1/1 0"), nil, "", api.ErrNumber},
		{of("0 0 1"), nil, "", api.ErrEmpty},
		{of("x 0 0"), list("0 0 0"), "", api.ErrNumber},
	} {
		if got, e := fitting.Total(c.axis, c.normals); got != c.want || e != c.e {
			t.Errorf("Total(%v, %v) = %s, %d", c.axis, c.normals, got, e)
		}
	}
}

// TestMisfitLaws compares totals with sums of misfits, and these with their definition.
func TestMisfitLaws(t *testing.T) {
	r := rand.New(rand.NewSource(1))
	for range 1000 {
		axis, normals := anyNormal(r), anyNormals(r, 1+r.Intn(6))
		sum := api.Rational("0")
		for _, n := range normals {
			along := dot(axis, n)
			want := div(rational.Mul(along, along), rational.Mul(dot(axis, axis), dot(n, n)))
			got, e := fitting.Off(axis, n)
			if got != want || e != api.OK || rational.Sign(got) < 0 || rational.Compare(got, "1") > 0 {
				t.Fatalf("Off(%v, %v) = %s, %d", axis, n, got, e)
			}
			if again, e := fitting.Off(times("-3/2", axis), times("-5", n)); again != want || e != api.OK {
				t.Fatalf("Off of multiples of %v and %v = %s, %d", axis, n, again, e)
			}
			sum = rational.Add(sum, want)
		}
		if got, e := fitting.Total(axis, normals); got != sum || e != api.OK {
			t.Fatalf("Total(%v, %v) = %s, %d, not %s", axis, normals, got, e, sum)
		}
	}
}

func TestAxis(t *testing.T) {
	long := rational.Sub(most, "1")
	for _, c := range []struct {
		normals []api.Vector
		want    api.Vector
		total   api.Rational
		e       api.Errno
	}{
		{list("0 1 1, 0 -1 1"), of("1 0 0"), "0", api.OK},
		{list("0 -1 1, 0 1 1"), of("1 0 0"), "0", api.OK},
		{list("1 0 1, -1 0 1"), of("0 1 0"), "0", api.OK},
		{list("1 0 0, 0 -1 0"), of("0 0 -1"), "0", api.OK},
		{list("1 0 1, 0 1 1"), of("1 1 -1"), "0", api.OK},
		{list("0 1 1, 0 -1 1, 1 0 3"), of("1 0 0"), "1/10", api.OK},
		{list("1 0 3, 0 1 1, 0 -1 1"), of("1 0 0"), "1/10", api.OK},
		{list("0 0 1, 0 0 -2, 0 3 0"), of("1 0 0"), "0", api.OK},
		// The three lines have the same total: that of the first pair is the best one.
		{list("1 0 0, 0 1 0, 0 0 1"), of("0 0 -1"), "1", api.OK},
		{list("0 0 1, 0 1 0, 1 0 0"), of("1 0 0"), "1", api.OK},
		{list("0 1 0, 0 0 1, 1 0 0"), of("1 0 0"), "1", api.OK},
		{list("2 0 0, 1 0 0, 0 0 1, 0 1 0"), of("0 1 0"), "1", api.OK},
		{list("1 0 0"), api.Vector{}, "", api.ErrDependent},
		{list("1 2 3, -2 -4 -6, 1/3 2/3 1"), api.Vector{}, "", api.ErrDependent},
		{[]api.Vector{{X: most, Y: "1", Z: "0"}, times(tiny, api.Vector{X: most, Y: "1", Z: "0"})}, api.Vector{}, "", api.ErrDependent},
		// The axis is too long, only just not, or only on the way.
		{[]api.Vector{{X: most, Y: "1", Z: "0"}, {X: "0", Y: "1", Z: long}}, api.Vector{}, "", api.ErrLimit},
		{[]api.Vector{of("1 0 0"), {X: "5", Y: most, Z: "-" + long}}, api.Vector{X: "0", Y: "-" + long, Z: "-" + most}, "0", api.OK},
		{[]api.Vector{times(most, of("0 1 1")), times(tiny, of("0 -1 1"))}, of("1 0 0"), "0", api.OK},
		// The total is too long.
		{[]api.Vector{of("0 1 1"), of("0 -1 1"), {X: "1", Y: "0", Z: most}}, api.Vector{}, "", api.ErrLimit},
	} {
		got, total, e := fitting.Axis(c.normals)
		if got != c.want || total != c.total || e != c.e {
			t.Errorf("Axis(%v) = %v, %s, %d", c.normals, got, total, e)
		}
	}
}

// lines returns the lines of all pairs of planes that are not parallel, with their totals, which can be of any length.
func lines(normals []api.Vector) (axes []api.Vector, totals []api.Rational) {
	for i, m := range normals {
		for _, n := range normals[i+1:] {
			along, e := vector.Cross(m, n)
			if e != api.OK || along == of("0 0 0") {
				continue
			}
			sum := api.Rational("0")
			for _, n := range normals {
				product := dot(along, n)
				sum = rational.Add(sum, div(rational.Mul(product, product), rational.Mul(dot(along, along), dot(n, n))))
			}
			axes, totals = append(axes, along), append(totals, sum)
		}
	}
	return axes, totals
}

// checkBest compares the best axis with all lines, and reports whether there is one.
func checkBest(t *testing.T, normals []api.Vector) bool {
	t.Helper()
	axes, totals := lines(normals)
	got, total, e := fitting.Axis(normals)
	if len(axes) == 0 {
		if got != (api.Vector{}) || total != "" || e != api.ErrDependent {
			t.Fatalf("Axis(%v) = %v, %s, %d", normals, got, total, e)
		}
		return false
	}
	least := slices.MinFunc(totals, rational.Compare)
	want, _ := lineation.Of(axes[slices.Index(totals, least)])
	if got != want || total != least || e != api.OK {
		t.Fatalf("Axis(%v) = %v, %s, %d, not %v, %s", normals, got, total, e, want, least)
	}
	return true
}

func TestAxisLaws(t *testing.T) {
	r := rand.New(rand.NewSource(2))
	found := 0
	for range 1000 {
		normals := anyNormals(r, 1+r.Intn(6))
		if !checkBest(t, normals) {
			continue
		}
		found++
		axis, total, _ := fitting.Axis(normals)
		if again, e := fitting.Total(axis, normals); again != total || e != api.OK {
			t.Fatalf("Axis(%v) = %v, %s, but its total is %s", normals, axis, total, again)
		}
		opposite := slices.Clone(normals)
		for i, n := range opposite {
			opposite[i] = times("-1", n)
		}
		if got, again, e := fitting.Axis(opposite); got != axis || again != total || e != api.OK {
			t.Fatalf("Axis(%v) = %v, %s, %d, but that of the opposites is %v", normals, axis, total, e, got)
		}
	}
	if found < 500 {
		t.Errorf("%d axes", found)
	}
}

// TestCloseTotals has lines whose totals differ by far less than their leading digits tell.
func TestCloseTotals(t *testing.T) {
	for _, digits := range []int{1, 10, 20, 40, 45} {
		bit := api.Rational("1" + strings.Repeat("0", digits))
		for _, s := range []string{"1", "-1"} {
			near := rational.Add(bit, api.Rational(s))
			// But for the last digits, the three planes are perpendicular in pairs, and all lines alike.
			for _, normals := range [][]api.Vector{
				{{X: bit, Y: near, Z: "0"}, {X: "-" + near, Y: near, Z: "0"}, of("0 0 1")},
				{of("0 0 1"), {X: bit, Y: near, Z: "0"}, {X: "-" + near, Y: near, Z: "0"}},
				{{X: near, Y: "0", Z: "1"}, of("0 1 0"), {X: "-1", Y: "0", Z: bit}},
				{{X: bit, Y: "1", Z: "0"}, {X: "0", Y: near, Z: "1"}, {X: "1", Y: "0", Z: bit}},
				{{X: "1", Y: "0", Z: near}, {X: bit, Y: "1", Z: "0"}, {X: "0", Y: bit, Z: "1"}},
			} {
				_, totals := lines(normals)
				if least := slices.MinFunc(totals, rational.Compare); len(least) <= api.MaxDigits {
					checkBest(t, normals)
				}
			}
		}
	}
}

// TestLongAxis has as many planes as a list can have, with numbers of all lengths.
func TestLongAxis(t *testing.T) {
	var normals []api.Vector
	x := api.Rational("1")
	for i := range fitting.MaxList {
		// The planes contain the line 1 1 1, and all of their numbers are long.
		x = rational.Mul(x, "1009/2")
		if rational.Check(x) != api.OK {
			x = "1"
		}
		y := rational.Add(x, ratio(i, 7))
		normals = append(normals, api.Vector{X: x, Y: rational.Neg(y), Z: rational.Sub(y, x)})
	}
	if axis, total, e := fitting.Axis(normals); axis != of("-1 -1 -1") || total != "0" || e != api.OK {
		t.Errorf("Axis = %v, %s, %d", axis, total, e)
	}
	if axis, is, e := fitting.Cylindrical(normals); axis != of("-1 -1 -1") || !is || e != api.OK {
		t.Errorf("Cylindrical = %v, %t, %d", axis, is, e)
	}
	normals[7] = api.Vector{X: most, Y: "1", Z: "0"}
	if axis, total, e := fitting.Axis(normals); axis != (api.Vector{}) || total != "" || e != api.ErrLimit {
		t.Errorf("Axis = %v, %s, %d", axis, total, e)
	}
	if axis, is, e := fitting.Cylindrical(normals); axis != (api.Vector{}) || is || e != api.OK {
		t.Errorf("Cylindrical = %v, %t, %d", axis, is, e)
	}
}

func TestCylindrical(t *testing.T) {
	long := rational.Sub(most, "1")
	for _, c := range []struct {
		normals []api.Vector
		want    api.Vector
		is      bool
		e       api.Errno
	}{
		{list("0 1 1, 0 -1 1"), of("1 0 0"), true, api.OK},
		{list("0 1 1, 0 -1 1, 0 0 1, 0 5 -2/3"), of("1 0 0"), true, api.OK},
		{list("0 1 1, 0 -1 1, 1 0 3"), api.Vector{}, false, api.OK},
		{list("0 1 1, 0 2 2, 0 -1 -1, 1 0 0, 1 1 1"), of("0 1 -1"), true, api.OK},
		{list("1 2 3, 3 2 1, 1 1 1"), of("-1 2 -1"), true, api.OK},
		{list("1 2 3, 3 2 1, 1 1 2"), api.Vector{}, false, api.OK},
		// There are many axes, but no best one.
		{list("1 2 3"), api.Vector{}, false, api.OK},
		{list("1 2 3, -2 -4 -6"), api.Vector{}, false, api.OK},
		{[]api.Vector{times(most, of("0 1 1")), times(tiny, of("0 -1 1"))}, of("1 0 0"), true, api.OK},
		{[]api.Vector{{X: most, Y: "1", Z: "0"}, {X: "0", Y: "1", Z: long}}, api.Vector{}, false, api.ErrLimit},
		// Where there is none, it cannot be too long.
		{[]api.Vector{{X: most, Y: "1", Z: "0"}, {X: "0", Y: "1", Z: long}, of("1 0 0")}, api.Vector{}, false, api.OK},
	} {
		if got, is, e := fitting.Cylindrical(c.normals); got != c.want || is != c.is || e != c.e {
			t.Errorf("Cylindrical(%v) = %v, %t, %d", c.normals, got, is, e)
		}
	}
}

// TestCylindricalLaws compares with the best axis.
func TestCylindricalLaws(t *testing.T) {
	r := rand.New(rand.NewSource(3))
	counts := map[bool]int{}
	for range 1000 {
		normals := anyNormals(r, 1+r.Intn(4))
		axis, total, e := fitting.Axis(normals)
		got, is, f := fitting.Cylindrical(normals)
		if is != (e == api.OK && total == "0") || f != api.OK || is && got != axis || !is && got != (api.Vector{}) {
			t.Fatalf("Cylindrical(%v) = %v, %t, %d, but Axis = %v, %s, %d", normals, got, is, f, axis, total, e)
		}
		if len(normals) == 2 && is != (e == api.OK) {
			t.Fatalf("Cylindrical(%v) = %t", normals, is)
		}
		counts[is]++
	}
	if len(counts) != 2 || min(counts[true], counts[false]) < 100 {
		t.Errorf("counts %v", counts)
	}
}
