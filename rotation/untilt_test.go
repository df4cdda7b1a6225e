package rotation_test

import (
	"cmp"
	"math/rand"
	"strings"
	"testing"

	"klippe/api"
	"klippe/rational"
	"klippe/rotation"
	"klippe/samples"
	"klippe/vector"
)

func TestAround(t *testing.T) {
	for _, c := range []struct {
		axis api.Vector
		k    api.Rational
		want [4]int
		e    api.Errno
	}{
		{of("0 0 1"), "1", [4]int{1, 0, 0, 1}, api.OK},
		{of("0 0 1"), "1/2", [4]int{2, 0, 0, 1}, api.OK},
		{of("0 0 1"), "-1/2", [4]int{2, 0, 0, -1}, api.OK},
		{of("0 0 -2"), "1/4", [4]int{2, 0, 0, -1}, api.OK},
		{of("1/2 -1/3 1/5"), "1", [4]int{30, 15, -10, 6}, api.OK},
		{of("2 4 6"), "1/2", [4]int{1, 1, 2, 3}, api.OK},
		{of("2 4 6"), "2/3", [4]int{3, 4, 8, 12}, api.OK},
		{of("1 2 3"), "0", [4]int{1, 0, 0, 0}, api.OK},
		{of("0 0 0"), "5", [4]int{1, 0, 0, 0}, api.OK},
		{of("1 0 0"), "1000000", [4]int{1, maxPart, 0, 0}, api.OK},
		{of("0 1 0"), "-1/1000000", [4]int{maxPart, 0, -1, 0}, api.OK},
		{of("1 0 0"), "1000001", [4]int{}, api.ErrLimit},
		{of("0 0 -1"), "1000001", [4]int{}, api.ErrLimit},
		{of("0 1 0"), "1/1000001", [4]int{}, api.ErrLimit},
		{of("1 0 0"), most, [4]int{}, api.ErrLimit},
		{of("1 0 0"), tiny, [4]int{}, api.ErrLimit},
		{api.Vector{X: most, Y: "0", Z: "-" + most}, tiny, [4]int{1, 1, 0, -1}, api.OK},
		{api.Vector{X: tiny, Y: "2/" + most, Z: "0"}, most, [4]int{1, 1, 2, 0}, api.OK},
		{api.Vector{X: most, Y: most, Z: most}, most, [4]int{}, api.ErrLimit},
		// The part of 64 bits that these digits make without the rest is small.
		{of("1 0 0"), "18446744073709551617", [4]int{}, api.ErrLimit},
	} {
		if got, e := rotation.Around(c.axis, c.k); got != c.want || e != c.e {
			t.Errorf("Around(%v, %s) = %v, %d", c.axis, c.k, got, e)
		}
	}
	for _, v := range wrongVectors() {
		if got, e := rotation.Around(v, "x"); got != [4]int{} || e != api.ErrNumber {
			t.Errorf("Around(%v) = %v, %d", v, got, e)
		}
	}
	for _, k := range samples.NotRight() {
		if got, e := rotation.Around(of("0 0 1"), k); got != [4]int{} || e != api.ErrNumber {
			t.Errorf("Around with %q = %v, %d", k, got, e)
		}
	}
}

// TestAroundLaws makes any quaternion, whose w is not 0, from its axis.
func TestAroundLaws(t *testing.T) {
	r := rand.New(rand.NewSource(6))
	for range 1000 {
		q := anyQuaternion(r, 50)
		if q[0] == 0 {
			continue
		}
		k := ratio(1, q[0])
		want, _ := rotation.Primitive(q)
		if got, e := rotation.Around(vector.Of(q[1], q[2], q[3]), k); got != want || e != api.OK {
			t.Fatalf("Around = %v, %d, not %v", got, e, want)
		}
		// With the axis of a quaternion, the tangent of half of the angle has the length of x y z, divided by w.
		axis, e := rotation.Axis(q)
		if e != api.OK {
			continue
		}
		size := cmp.Or(want[1], want[2], want[3])
		along := cmp.Or(number(axis.X), number(axis.Y), number(axis.Z))
		if again, e := rotation.Around(axis, ratio(size, along*want[0])); again != want || e != api.OK {
			t.Fatalf("Around(%v) = %v, %d, not %v", axis, again, e, want)
		}
	}
}

func number(x api.Rational) int {
	n, _, _ := rational.Small(x)
	return n
}

func TestLength(t *testing.T) {
	power := api.Rational("1" + strings.Repeat("0", 199))
	for _, c := range []struct {
		v    api.Vector
		want api.Rational
		e    api.Errno
	}{
		{of("0 -3 4"), "5", api.OK},
		{of("0 0 0"), "0", api.OK},
		{of("0 0 -7/2"), "7/2", api.OK},
		{of("1 2 2"), "3", api.OK},
		{of("-2/3 1/3 2/3"), "1", api.OK},
		{of("1/2 2/3 0"), "5/6", api.OK},
		{of("1 1 0"), "", api.ErrRoot},
		{of("1 1 1"), "", api.ErrRoot},
		{of("1/2 1/2 0"), "", api.ErrRoot},
		{of("1 1/7 0"), "", api.ErrRoot},
		{api.Vector{X: most, Y: "0", Z: "0"}, most, api.OK},
		{api.Vector{X: "0", Y: "0", Z: "-" + tiny}, tiny, api.OK},
		{api.Vector{X: most, Y: "1", Z: "0"}, "", api.ErrRoot},
		{api.Vector{X: rational.Mul("3", power), Y: rational.Mul("4", power), Z: "0"}, rational.Mul("5", power), api.OK},
		{api.Vector{X: rational.Mul("6", power), Y: "0", Z: rational.Mul("8", power)}, "", api.ErrLimit},
		{api.Vector{X: rational.Mul("6", power), Y: rational.Mul("7", power), Z: rational.Mul("6", power)}, "", api.ErrLimit},
		{api.Vector{X: rational.Mul("6", power), Y: rational.Mul("7", power), Z: rational.Mul("7", power)}, "", api.ErrRoot},
	} {
		if got, e := rotation.Length(c.v); got != c.want || e != c.e {
			t.Errorf("Length(%v) = %s, %d", c.v, got, e)
		}
	}
	for _, v := range wrongVectors() {
		if got, e := rotation.Length(v); got != "" || e != api.ErrNumber {
			t.Errorf("Length(%v) = %s, %d", v, got, e)
		}
	}
}

func TestUntilt(t *testing.T) {
	power := api.Rational("1" + strings.Repeat("0", 199))
	times := func(k, m, n api.Rational) api.Vector {
		return api.Vector{X: rational.Mul(k, power), Y: rational.Mul(m, power), Z: rational.Mul(n, power)}
	}
	for _, c := range []struct {
		n    api.Vector
		want [4]int
		e    api.Errno
	}{
		{of("0 -3 4"), [4]int{3, -1, 0, 0}, api.OK},
		{of("3 0 4"), [4]int{3, 0, -1, 0}, api.OK},
		{of("0 3 -4"), [4]int{1, 3, 0, 0}, api.OK},
		{of("1/3 2/3 2/3"), [4]int{5, 2, -1, 0}, api.OK},
		{of("1 2 -2"), [4]int{1, 2, -1, 0}, api.OK},
		{of("0 0 1/2"), [4]int{1, 0, 0, 0}, api.OK},
		{of("0 0 -1/2"), [4]int{0, 1, 0, 0}, api.OK},
		{of("0 0 -9"), [4]int{0, 1, 0, 0}, api.OK},
		{of("1 0 0"), [4]int{1, 0, -1, 0}, api.OK},
		{of("0 -1 0"), [4]int{1, -1, 0, 0}, api.OK},
		{of("3 4 0"), [4]int{5, 4, -3, 0}, api.OK},
		{of("0 0 0"), [4]int{}, api.ErrZero},
		{of("1 1 0"), [4]int{}, api.ErrRoot},
		{of("1 1 -1"), [4]int{}, api.ErrRoot},
		// 2 u, 1 - u u and 1 + u u are the sides of a triangle: the quaternion is the primitive one of 1, u.
		{of("2000000 0 999999999999"), [4]int{maxPart, 0, -1, 0}, api.OK},
		{of("2000002 0 1000002000000"), [4]int{}, api.ErrLimit},
		{of("0 2000000 -999999999999"), [4]int{1, maxPart, 0, 0}, api.OK},
		{of("0 -2000002 -1000002000000"), [4]int{}, api.ErrLimit},
		{api.Vector{X: "0", Y: "0", Z: "-" + most}, [4]int{0, 1, 0, 0}, api.OK},
		{api.Vector{X: "0", Y: "0", Z: tiny}, [4]int{1, 0, 0, 0}, api.OK},
		{times("3", "0", "4"), [4]int{3, 0, -1, 0}, api.OK},
		// The lengths of these are too long for a result, but those of the quaternion are not.
		{times("6", "0", "8"), [4]int{3, 0, -1, 0}, api.OK},
		{times("6", "6", "7"), [4]int{3, 1, -1, 0}, api.OK},
	} {
		if got, e := rotation.Untilt(c.n); got != c.want || e != c.e {
			t.Errorf("Untilt(%v) = %v, %d", c.n, got, e)
		}
	}
	for _, v := range wrongVectors() {
		if got, e := rotation.Untilt(v); got != [4]int{} || e != api.ErrNumber {
			t.Errorf("Untilt(%v) = %v, %d", v, got, e)
		}
	}
}

// TestUntiltLaws untilts normals with rational lengths.
func TestUntiltLaws(t *testing.T) {
	r := rand.New(rand.NewSource(7))
	for range 2000 {
		// A rotated vertical normal has a rational length.
		length := rational.Abs(anyNumber(r))
		if length == "0" {
			continue
		}
		n, _ := rotation.Apply(anyQuaternion(r, 5), api.Vector{X: "0", Y: "0", Z: length})
		if got, e := rotation.Length(n); got != length || e != api.OK {
			t.Fatalf("Length(%v) = %s, %d", n, got, e)
		}
		q, e := rotation.Untilt(n)
		if e != api.OK || q[3] != 0 {
			t.Fatalf("Untilt(%v) = %v, %d", n, q, e)
		}
		if up, _ := rotation.Apply(q, n); up != (api.Vector{X: "0", Y: "0", Z: length}) {
			t.Fatalf("Untilt(%v) = %v, which takes it to %v", n, q, up)
		}
		// No rotation turns a normal upward by less than the angle between them.
		cosine, _ := rational.Div(n.Z, length)
		if got, _ := rotation.Cosine(q); got != cosine {
			t.Fatalf("Untilt(%v) = %v with the cosine %s", n, q, got)
		}
		if primitive, _ := rotation.Primitive(q); primitive != q {
			t.Fatalf("Untilt(%v) = %v", n, q)
		}
	}
}
