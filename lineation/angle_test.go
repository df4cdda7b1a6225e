package lineation_test

import (
	"cmp"
	"math/rand"
	"testing"

	"klippe/api"
	"klippe/lineation"
	"klippe/rational"
)

func TestAngle(t *testing.T) {
	for _, c := range []struct {
		u, v api.Vector
		want api.Rational
		e    api.Errno
	}{
		{of("1 2 3"), of("-2 -4 -6"), "1", api.OK},
		{of("1 0 0"), of("0 5 7"), "0", api.OK},
		{of("1 0 0"), of("1 1 0"), "1/2", api.OK},
		{of("1 0 0"), of("-1 1 0"), "1/2", api.OK},
		{of("1/2 1/3 0"), of("1 1 1"), "25/39", api.OK},
		{api.Vector{X: most, Y: most, Z: "0"}, api.Vector{X: tiny, Y: "0", Z: "0"}, "1/2", api.OK},
		{api.Vector{X: most, Y: "1", Z: "0"}, of("0 0 1"), "0", api.OK},
		{api.Vector{X: most, Y: "1", Z: "0"}, of("1 0 0"), "", api.ErrLimit},
		{of("1 0 0"), api.Vector{X: most, Y: "1", Z: "0"}, "", api.ErrLimit},
	} {
		if got, e := lineation.Angle(c.u, c.v); got != c.want || e != c.e {
			t.Errorf("Angle(%v, %v) = %s, %d", c.u, c.v, got, e)
		}
	}
}

func TestCompareAngles(t *testing.T) {
	// Each angle is greater than those before it.
	angles := [][][2]api.Vector{
		{{of("1 2 3"), of("1 2 3")}, {of("0 1/2 0"), of("0 -7 0")}, {{X: most, Y: "0", Z: tiny}, {X: "-" + most, Y: "0", Z: "-" + tiny}}},
		{{{X: most, Y: "0", Z: tiny}, {X: most, Y: "0", Z: "-" + tiny}}},
		{{of("1 0 0"), {X: most, Y: "0", Z: "1"}}},
		{{of("1 1 0"), of("2 1 1")}, {of("-1 -1 0"), of("2 1 1")}},
		{{of("1 0 0"), of("1 1 0")}, {of("1/2 0 0"), of("-3 0 3")}},
		{{of("1 0 0"), {X: rational.Sub("1", tiny), Y: "1", Z: "0"}}},
		{{of("1 1 0"), of("1 0 1")}, {of("1 1 0"), of("-1 0 1")}},
		{{of("1 0 0"), {X: "1", Y: most, Z: "0"}}},
		{{of("1 0 0"), of("0 1 0")}, {of("1 1 1"), of("1 1 -2")}, {{X: most, Y: "1", Z: "0"}, {X: "1", Y: "-" + most, Z: "0"}}},
	}
	for i, angle := range angles {
		for j, other := range angles {
			for _, a := range angle {
				for _, b := range other {
					if got, e := lineation.CompareAngles(a, b); got != cmp.Compare(i, j) || e != api.OK {
						t.Errorf("CompareAngles(%v, %v) = %d, %d", a, b, got, e)
					}
				}
			}
		}
	}
}

func TestLies(t *testing.T) {
	for _, c := range []struct {
		n, v api.Vector
		want bool
	}{
		{of("1 0 1"), of("1 1 -1"), true}, {of("0 0 1"), of("3 -1/2 0"), true}, {of("1/2 1/3 1/6"), of("1 -1 -1"), true},
		{of("1 0 1"), of("1 1 1"), false}, {of("0 0 1"), of("0 0 1"), false}, {of("1 2 3"), of("1 1 1"), false},
		{api.Vector{X: most, Y: "1", Z: "0"}, api.Vector{X: "1", Y: "-" + most, Z: most}, true},
		{api.Vector{X: most, Y: tiny, Z: "0"}, api.Vector{X: tiny, Y: "-1", Z: "0"}, false},
	} {
		if got, e := lineation.Lies(c.n, c.v); got != c.want || e != api.OK {
			t.Errorf("Lies(%v, %v) = %t, %d", c.n, c.v, got, e)
		}
	}
}

func TestIntersect(t *testing.T) {
	for _, c := range []struct {
		m, n, want api.Vector
		e          api.Errno
	}{
		{of("1 0 1"), of("0 1 1"), of("1 1 -1"), api.OK},
		{of("0 1 1"), of("1 0 1"), of("1 1 -1"), api.OK},
		{of("1/2 0 0"), of("0 1/3 0"), of("0 0 -1"), api.OK},
		{of("0 0 1"), of("1 0 1"), of("0 1 0"), api.OK},
		{of("0 0 1"), of("0 1 1"), of("1 0 0"), api.OK},
		{of("0 0 1"), of("1 1 1"), of("-1 1 0"), api.OK},
		{of("1 2 3"), of("-2 -4 -6"), api.Vector{}, api.ErrDependent},
		{of("1 2 3"), of("1 2 3"), api.Vector{}, api.ErrDependent},
		{api.Vector{X: most, Y: "0", Z: tiny}, api.Vector{X: most, Y: "0", Z: tiny}, api.Vector{}, api.ErrDependent},
		{api.Vector{X: most, Y: "0", Z: most}, api.Vector{X: "0", Y: most, Z: most}, of("1 1 -1"), api.OK},
		{api.Vector{X: most, Y: "0", Z: "1"}, of("0 1 0"), api.Vector{X: "1", Y: "0", Z: "-" + most}, api.OK},
		{api.Vector{X: most, Y: "0", Z: "1"}, api.Vector{X: "0", Y: rational.Sub(most, "1"), Z: "1"}, api.Vector{}, api.ErrLimit},
		{api.Vector{X: most, Y: "0", Z: "1/2"}, of("0 1 0"), api.Vector{}, api.ErrLimit},
	} {
		if got, e := lineation.Intersect(c.m, c.n); got != c.want || e != c.e {
			t.Errorf("Intersect(%v, %v) = %v, %d", c.m, c.n, got, e)
		}
	}
}

func TestPitch(t *testing.T) {
	for _, c := range []struct {
		n, v api.Vector
		want api.Rational
		e    api.Errno
	}{
		{of("1 0 1"), of("1 1 -1"), "1/3", api.OK},
		{of("-1 0 -1"), of("-1/2 -1/2 1/2"), "1/3", api.OK},
		{of("1 0 1"), of("0 -3 0"), "1", api.OK},
		{of("1 0 1"), of("2 0 -2"), "0", api.OK},
		{of("3 4 0"), of("0 0 1"), "0", api.OK},
		{of("3 4 0"), of("-4 3 5"), "1/2", api.OK},
		{of("1 2 3"), of("2 -1 0"), "1", api.OK},
		{of("1 2 3"), of("3 0 -1"), "18/25", api.OK},
		{of("0 0 1"), of("1 0 0"), "", api.ErrNone},
		{of("0 0 -1/2"), of("0 0 1"), "", api.ErrNone},
		{of("1 0 1"), of("1 0 1"), "", api.ErrForm},
		{of("1 2 3"), of("1 1 1"), "", api.ErrForm},
		{api.Vector{X: most, Y: "0", Z: most}, api.Vector{X: "-" + tiny, Y: tiny, Z: tiny}, "1/3", api.OK},
		{of("1 0 1"), api.Vector{X: "-1", Y: most, Z: "1"}, "", api.ErrLimit},
		{of("1 0 1"), api.Vector{X: "1", Y: most, Z: "1"}, "", api.ErrForm},
		{api.Vector{X: "0", Y: "0", Z: most}, api.Vector{X: "1", Y: most, Z: "1"}, "", api.ErrNone},
	} {
		if got, e := lineation.Pitch(c.n, c.v); got != c.want || e != c.e {
			t.Errorf("Pitch(%v, %v) = %s, %d", c.n, c.v, got, e)
		}
	}
}

func TestInterlimb(t *testing.T) {
	for _, c := range []struct {
		m, n string
		want int
	}{
		{"1 0 1", "-1 0 1", lineation.Close},
		{"2 0 3", "-2 0 3", lineation.Open},
		{"2 0 1", "-2 0 1", lineation.Tight},
		// Two normals in one direction are limbs of a fold that is not folded at all, opposite ones those of the tightest one.
		{"1 2 3", "1/2 1 3/2", lineation.Gentle},
		{"1 2 3", "-1 -2 -3", lineation.Isoclinal},
		// Angles of exactly 60, 90, 120 and 150 degrees between the normals, and some that are a little less, and more.
		{"1 1 0", "1 0 1", lineation.Open},
		{"1 1 0", "1 1/99999999 1", lineation.Gentle},
		{"1 1 0", "1 -1/99999999 1", lineation.Open},
		{"1 1 0", "-1 1 5", lineation.Close},
		{"1 1 0", "1 -99999999/100000000 5", lineation.Open},
		{"1 1 0", "-1 99999999/100000000 5", lineation.Close},
		{"1 1 0", "-1 0 -1", lineation.Tight},
		{"1 1 0", "-1 1/99999999 -1", lineation.Close},
		{"1 1 0", "-1 -1/99999999 -1", lineation.Tight},
		{"1 1 0", "-2 -1 -1", lineation.Isoclinal},
		{"1 1 0", "-2 -1 -100000001/100000000", lineation.Tight},
		{"1 1 0", "-2 -1 99999999/100000000", lineation.Isoclinal},
		{"1 1 0", "2 1 1", lineation.Gentle},
	} {
		m, n := of(c.m), of(c.n)
		got, e := lineation.Interlimb(m, n)
		back, e2 := lineation.Interlimb(n, m)
		if got != c.want || back != c.want || max(e, e2) != api.OK {
			t.Errorf("Interlimb(%s, %s) = %d, %d, and %d, %d", c.m, c.n, got, e, back, e2)
		}
	}
	nearly := rational.Sub("1", tiny)
	for _, c := range []struct {
		m, n api.Vector
		want int
	}{
		{api.Vector{X: most, Y: most, Z: "0"}, api.Vector{X: tiny, Y: "0", Z: tiny}, lineation.Open},
		{of("1 1 0"), api.Vector{X: "1", Y: "0", Z: nearly}, lineation.Gentle},
		{of("1 1 0"), api.Vector{X: "-2", Y: "-1", Z: nearly}, lineation.Isoclinal},
		{of("-1 -1 0"), api.Vector{X: nearly, Y: "0", Z: "1"}, lineation.Close},
		{of("1 1 0"), api.Vector{X: "-1", Y: nearly, Z: "0"}, lineation.Close},
		{of("1 1 0"), api.Vector{X: "1", Y: "-" + nearly, Z: "0"}, lineation.Open},
	} {
		if got, e := lineation.Interlimb(c.m, c.n); got != c.want || e != api.OK {
			t.Errorf("Interlimb(%v, %v) = %d, %d", c.m, c.n, got, e)
		}
	}
}

// TestAngleLaws checks the consequences for any directions.
func TestAngleLaws(t *testing.T) {
	r := rand.New(rand.NewSource(4))
	for range 2000 {
		u, v, k := anyDirection(r), anyDirection(r), anyFactor(r)
		angle, e := lineation.Angle(u, v)
		back, _ := lineation.Angle(v, times(k, u))
		own, _ := lineation.Angle(u, times(k, u))
		same, _ := lineation.Same(u, v)
		lies, e2 := lineation.Lies(u, v)
		product := rational.Mul(angle, rational.Mul(dot(u, u), dot(v, v)))
		if angle != back || own != "1" || same != (angle == "1") || lies != (angle == "0") || product != rational.Mul(dot(u, v), dot(u, v)) || max(e, e2) != api.OK {
			t.Fatalf("Angle(%v, %v) = %s, %d", u, v, angle, e)
		}
		line, e := lineation.Intersect(u, v)
		if same != (e == api.ErrDependent) {
			t.Fatalf("Intersect(%v, %v) = %v, %d", u, v, line, e)
		}
		if e == api.OK {
			checkLine(t, u, v, line)
		}
		other := [2]api.Vector{anyDirection(r), anyDirection(r)}
		otherAngle, _ := lineation.Angle(other[0], other[1])
		if got, e := lineation.CompareAngles([2]api.Vector{u, v}, other); got != rational.Compare(otherAngle, angle) || e != api.OK {
			t.Fatalf("CompareAngles(%v %v, %v) = %d, %d", u, v, other, got, e)
		}
	}
}

// checkLine checks that the line of two planes lies in both, and compares its pitch with the angle between it and the strike.
func checkLine(t *testing.T, m, n, line api.Vector) {
	t.Helper()
	form, _ := lineation.Of(line)
	inM, _ := lineation.Lies(m, line)
	inN, _ := lineation.Lies(n, line)
	if form != line || !inM || !inN {
		t.Fatalf("Intersect(%v, %v) = %v", m, n, line)
	}
	if m.X == "0" && m.Y == "0" {
		return
	}
	want, _ := lineation.Angle(api.Vector{X: m.Y, Y: rational.Neg(m.X), Z: "0"}, line)
	if got, e := lineation.Pitch(m, line); got != want || e != api.OK {
		t.Fatalf("Pitch(%v, %v) = %s, %d", m, line, got, e)
	}
}

// TestInterlimbLaws turns one normal or both of them round.
func TestInterlimbLaws(t *testing.T) {
	r := rand.New(rand.NewSource(5))
	counts := map[int]int{}
	for range 2000 {
		m, n := anyDirection(r), anyDirection(r)
		class, e := lineation.Interlimb(m, n)
		both, _ := lineation.Interlimb(times("-1", m), times("-1", n))
		longer, _ := lineation.Interlimb(times("7/3", n), m)
		one, _ := lineation.Interlimb(m, times("-1", n))
		if class != both || class != longer || e != api.OK {
			t.Fatalf("Interlimb(%v, %v) = %d, %d, or %d, %d", m, n, class, e, both, longer)
		}
		counts[class]++
		// The squared cosine is that of the lesser angle between the normals.
		squared, _ := lineation.Angle(m, n)
		isTurned := false
		switch class {
		case lineation.Gentle:
			isTurned = one == lineation.Tight || one == lineation.Isoclinal
		case lineation.Isoclinal:
			isTurned = one == lineation.Gentle && rational.Compare(squared, "3/4") >= 0
		case lineation.Tight:
			isTurned = (one == lineation.Gentle || one == lineation.Open) && rational.Compare(squared, "3/4") < 0
		case lineation.Open:
			isTurned = one == lineation.Close || one == lineation.Tight
		case lineation.Close:
			isTurned = one == lineation.Open || one == lineation.Close
		}
		if !isTurned {
			t.Fatalf("Interlimb(%v, %v) = %d, but turned round it is %d", m, n, class, one)
		}
	}
	if len(counts) != 5 {
		t.Errorf("the classes are %v", counts)
	}
}
