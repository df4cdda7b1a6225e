package fitting_test

import (
	"math/rand"
	"slices"
	"testing"

	"klippe/api"
	"klippe/fitting"
	"klippe/rational"
	"klippe/rotation"
	"klippe/vector"
)

func TestMean(t *testing.T) {
	lengthy := times(power, of("6 6 7")) // its length has one digit too many
	for _, c := range []struct {
		normals []api.Vector
		mean    api.Vector
		e       api.Errno
		spread  api.Rational
		f       api.Errno
	}{
		{list("0 0 2, 3 0 4"), of("1 0 3"), api.OK, "9/10", api.OK},
		{list("0 0 1/2"), of("0 0 1"), api.OK, "1", api.OK},
		{list("-2 4 4, -1/3 2/3 2/3"), of("-1 2 2"), api.OK, "1", api.OK},
		{list("3 4 0, -3 4 0"), of("0 1 0"), api.OK, "16/25", api.OK},
		{list("1 0 0, 0 1 0, 0 0 1"), of("1 1 1"), api.OK, "1/3", api.OK},
		{list("1 2 2, 3 4 0"), of("14 22 10"), api.OK, "13/15", api.OK},
		{list("3 0 4, -6 0 -8"), api.Vector{}, api.ErrNone, "0", api.OK},
		{list("1 0 0, -3/5 4/5 0, -3 -4 0, 1/5 0 0"), of("1 0 0"), api.OK, "1/25", api.OK},
		{list("1 1 0"), api.Vector{}, api.ErrRoot, "", api.ErrRoot},
		{list("0 0 1, 1/2 1/2 0, -1/2 -1/2 0"), api.Vector{}, api.ErrRoot, "", api.ErrRoot},
		{list("0 0 1, 0 0 -1, 1 1 1"), api.Vector{}, api.ErrRoot, "", api.ErrRoot},
		// The lengths and the sum can be too long on the way.
		{[]api.Vector{times(tiny, of("3 0 4")), times(most, of("0 0 1"))}, of("1 0 3"), api.OK, "9/10", api.OK},
		{[]api.Vector{lengthy}, of("6 6 7"), api.OK, "1", api.OK},
		{[]api.Vector{lengthy, times("-1", lengthy)}, api.Vector{}, api.ErrNone, "0", api.OK},
	} {
		mean, e := fitting.Mean(c.normals)
		if want, _ := vector.Primitive(c.mean); mean != want || e != c.e {
			t.Errorf("Mean(%v) = %v, %d", c.normals, mean, e)
		}
		if spread, f := fitting.Spread(c.normals); spread != c.spread || f != c.f {
			t.Errorf("Spread(%v) = %s, %d", c.normals, spread, f)
		}
	}
}

// TestLongMean has normals with the numbers 2 u and u u - 1, and the length u u + 1.
func TestLongMean(t *testing.T) {
	sides := func(u api.Rational) (short, long api.Rational) {
		return rational.Mul("2", u), rational.Sub(rational.Mul(u, u), "1")
	}
	short, long := sides(most[:60])
	one := api.Vector{X: short, Y: "0", Z: long}
	short, long = sides(rational.Sub(most[:60], "1"))
	other := api.Vector{X: "0", Y: short, Z: long}
	if mean, e := fitting.Mean([]api.Vector{one}); mean != primitive(one) || e != api.OK {
		t.Errorf("Mean = %v, %d", mean, e)
	}
	if mean, e := fitting.Mean([]api.Vector{one, other}); mean != (api.Vector{}) || e != api.ErrLimit {
		t.Errorf("Mean = %v, %d", mean, e)
	}
	// The number that is too long is Y, and then X.
	for range 2 {
		if mean, e := fitting.Mean([]api.Vector{turned(one), turned(other)}); mean != (api.Vector{}) || e != api.ErrLimit {
			t.Errorf("Mean = %v, %d", mean, e)
		}
		one, other = turned(one), turned(other)
	}
	if spread, e := fitting.Spread([]api.Vector{one, other}); spread != "" || e != api.ErrLimit {
		t.Errorf("Spread = %s, %d", spread, e)
	}
	if spread, e := fitting.Spread([]api.Vector{one, one}); spread != "1" || e != api.OK {
		t.Errorf("Spread = %s, %d", spread, e)
	}
	if mean, e := fitting.Mean([]api.Vector{one, other, times("-1", one)}); mean != primitive(other) || e != api.OK {
		t.Errorf("Mean = %v, %d", mean, e)
	}
}

// turned takes each number to the axis before.
func turned(v api.Vector) api.Vector { return api.Vector{X: v.Y, Y: v.Z, Z: v.X} }

func primitive(v api.Vector) api.Vector {
	p, _ := vector.Primitive(v)
	return p
}

// anyUnit makes a vector of the length 1.
func anyUnit(r *rand.Rand) api.Vector {
	for {
		t := [4]int{r.Intn(5) - 2, r.Intn(5) - 2, r.Intn(5) - 2, r.Intn(5) - 2}
		if v, e := rotation.Apply(t, of("0 0 1")); e == api.OK {
			return v
		}
	}
}

func TestMeanLaws(t *testing.T) {
	r := rand.New(rand.NewSource(4))
	for range 1000 {
		count := 1 + r.Intn(4)
		sum := of("0 0 0")
		var normals []api.Vector
		for range count {
			unit := anyUnit(r)
			sum, _ = vector.Add(sum, unit)
			normals = append(normals, times(rational.Whole(1+r.Intn(4)), unit))
		}
		mean, e := fitting.Mean(normals)
		if zero := sum == of("0 0 0"); zero && (mean != api.Vector{} || e != api.ErrNone) || !zero && (mean != primitive(sum) || e != api.OK) {
			t.Fatalf("Mean(%v) = %v, %d", normals, mean, e)
		}
		spread, e := fitting.Spread(normals)
		if want := div(dot(sum, sum), rational.Whole(count*count)); spread != want || e != api.OK {
			t.Fatalf("Spread(%v) = %s, %d, not %s", normals, spread, e, want)
		}
		alike := !slices.ContainsFunc(normals, func(v api.Vector) bool { return primitive(v) != primitive(normals[0]) })
		if (spread == "1") != alike || rational.Sign(spread) < 0 || rational.Compare(spread, "1") > 0 {
			t.Fatalf("Spread(%v) = %s", normals, spread)
		}
		for i, n := range normals {
			normals[i] = times("-1", n)
		}
		if again, e := fitting.Spread(normals); again != spread || e != api.OK {
			t.Fatalf("Spread of the opposites of %v = %s, %d", normals, again, e)
		}
	}
}
