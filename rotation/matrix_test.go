package rotation_test

import (
	"math/rand"
	"strings"
	"testing"

	"klippe/affine"
	"klippe/api"
	"klippe/rational"
	"klippe/rotation"
	"klippe/vector"
)

// zeros makes integers of 200 digits from those of 3.
var zeros = api.Rational(strings.Repeat("0", 197))

// matrix has the rows as the document writes them.
func matrix(q [4]int) [3]api.Vector {
	w, x, y, z := q[0], q[1], q[2], q[3]
	s := w*w + x*x + y*y + z*z
	row := func(a, b, c int) api.Vector { return api.Vector{X: ratio(a, s), Y: ratio(b, s), Z: ratio(c, s)} }
	return [3]api.Vector{
		row(w*w+x*x-y*y-z*z, 2*(x*y-w*z), 2*(x*z+w*y)),
		row(2*(x*y+w*z), w*w-x*x+y*y-z*z, 2*(y*z-w*x)),
		row(2*(x*z-w*y), 2*(y*z+w*x), w*w-x*x-y*y+z*z),
	}
}

func TestMatrix(t *testing.T) {
	for _, c := range []struct {
		q    [4]int
		want [3]string
	}{
		{[4]int{1, 0, 0, 0}, [3]string{"1 0 0", "0 1 0", "0 0 1"}},
		{[4]int{1, 0, 0, 1}, [3]string{"0 -1 0", "1 0 0", "0 0 1"}},
		{[4]int{2, 0, 0, 1}, [3]string{"3/5 -4/5 0", "4/5 3/5 0", "0 0 1"}},
		{[4]int{1, 1, 0, 0}, [3]string{"1 0 0", "0 0 -1", "0 1 0"}},
		{[4]int{1, 0, 1, 0}, [3]string{"0 0 1", "0 1 0", "-1 0 0"}},
		{[4]int{-1, -1, -1, -1}, [3]string{"0 0 1", "1 0 0", "0 1 0"}},
		{[4]int{1, 2, 3, 4}, [3]string{"-2/3 2/15 11/15", "2/3 -1/3 2/3", "1/3 14/15 2/15"}},
		{[4]int{maxPart, maxPart, maxPart, maxPart}, [3]string{"0 0 1", "1 0 0", "0 1 0"}},
	} {
		want := [3]api.Vector{of(c.want[0]), of(c.want[1]), of(c.want[2])}
		if got, e := rotation.Matrix(c.q); got != want || e != api.OK {
			t.Errorf("Matrix(%v) = %v, %d", c.q, got, e)
		}
	}
}

// TestMatrixLaws compares with the formulas, and checks what rotations keep.
func TestMatrixLaws(t *testing.T) {
	r := rand.New(rand.NewSource(3))
	for range 1000 {
		q, other := anyQuaternion(r, 5), anyQuaternion(r, 5)
		if r.Intn(4) == 0 {
			q = anyQuaternion(r, maxPart)
		}
		rows, e := rotation.Matrix(q)
		if rows != matrix(q) || e != api.OK {
			t.Fatalf("Matrix(%v) = %v, %d", q, rows, e)
		}
		isometry, _ := affine.IsIsometry(api.Affine{Rows: rows, Shift: of("0 0 0")})
		cross, _ := vector.Cross(rows[0], rows[1])
		if !isometry || cross != rows[2] {
			t.Fatalf("Matrix(%v) = %v", q, rows)
		}
		trace := rational.Sum(rows[0].X, rows[1].Y, rows[2].Z)
		if cosine, e := rotation.Cosine(q); cosine != rational.Middle(trace, "-1") || e != api.OK {
			t.Fatalf("Cosine(%v) = %s, %d", q, cosine, e)
		}
		checkVectors(t, q, other, anyVector(r), anyVector(r))
	}
}

// checkVectors rotates two vectors by two rotations.
func checkVectors(t *testing.T, q, other [4]int, u, v api.Vector) {
	t.Helper()
	apply := func(q [4]int, v api.Vector) api.Vector {
		to, e := rotation.Apply(q, v)
		if e != api.OK {
			t.Fatalf("Apply(%v, %v): %d", q, v, e)
		}
		return to
	}
	dot, _ := vector.Dot(u, v)
	cross, _ := vector.Cross(u, v)
	u1, v1 := apply(q, u), apply(q, v)
	dot1, _ := vector.Dot(u1, v1)
	cross1, _ := vector.Cross(u1, v1)
	if dot1 != dot || cross1 != apply(q, cross) {
		t.Fatalf("Apply(%v): %v and %v to %v and %v", q, u, v, u1, v1)
	}
	if both, e := rotation.Compose(other, q); e == api.OK && apply(both, u) != apply(other, u1) {
		t.Fatalf("Compose(%v, %v) = %v", other, q, both)
	}
	if inverse, _ := rotation.Inverse(q); apply(inverse, u1) != u {
		t.Fatalf("the inverse of %v takes %v to %v", q, u1, apply(inverse, u1))
	}
	if axis, e := rotation.Axis(q); e == api.OK && apply(q, axis) != axis {
		t.Fatalf("the axis of %v is %v", q, axis)
	}
}

// TestCounterclockwise looks at vectors that are perpendicular to the axis: they turn to the left, seen from its tip, if the primitive quaternion has a w greater than 0.
func TestCounterclockwise(t *testing.T) {
	r := rand.New(rand.NewSource(4))
	for range 1000 {
		q, v := anyQuaternion(r, 5), anyVector(r)
		axis, e := rotation.Axis(q)
		if e != api.OK || q[0] == 0 {
			continue
		}
		across, _ := vector.Cross(axis, v)
		if across == of("0 0 0") {
			continue
		}
		to, _ := rotation.Apply(q, across)
		turn, _ := vector.Cross(across, to)
		if along, _ := vector.Dot(turn, axis); rational.Sign(along) != 1 {
			t.Fatalf("%v turns %v to %v about %v", q, across, to, axis)
		}
	}
}

func TestApply(t *testing.T) {
	for _, c := range []struct {
		q       [4]int
		v, want api.Vector
		e       api.Errno
	}{
		{[4]int{1, 0, 0, 1}, of("1 0 0"), of("0 1 0"), api.OK},
		{[4]int{2, 0, 0, 1}, of("1 0 0"), of("3/5 4/5 0"), api.OK},
		{[4]int{-2, 0, 0, -1}, of("1 0 0"), of("3/5 4/5 0"), api.OK},
		{[4]int{1, 1, 1, 1}, of("1/2 -1/3 7"), of("7 1/2 -1/3"), api.OK},
		{[4]int{1, 2, 3, 4}, of("0 0 0"), of("0 0 0"), api.OK},
		{[4]int{1, 1, 1, 1}, api.Vector{X: most, Y: tiny, Z: "-" + most}, api.Vector{X: "-" + most, Y: most, Z: tiny}, api.OK},
		{[4]int{0, 0, 0, 1}, api.Vector{X: most, Y: most, Z: most}, api.Vector{X: "-" + most, Y: "-" + most, Z: most}, api.OK},
		{[4]int{2, 0, 0, 1}, api.Vector{X: most, Y: "-" + most, Z: "0"}, api.Vector{}, api.ErrLimit},
		{[4]int{2, 1, 0, 0}, api.Vector{X: "0", Y: most, Z: "-" + most}, api.Vector{}, api.ErrLimit},
		{[4]int{2, 0, 1, 0}, api.Vector{X: "-" + most, Y: "0", Z: most}, api.Vector{}, api.ErrLimit},
		{[4]int{2, 0, 0, 1}, api.Vector{X: "5/7", Y: tiny, Z: "0"}, api.Vector{}, api.ErrLimit},
		{[4]int{2, 0, 0, 1}, api.Vector{X: "990" + zeros, Y: "-515" + zeros, Z: "0"}, api.Vector{}, api.ErrLimit},
	} {
		if got, e := rotation.Apply(c.q, c.v); got != c.want || e != c.e {
			t.Errorf("Apply(%v, %v) = %v, %d", c.q, c.v, got, e)
		}
	}
	for _, v := range wrongVectors() {
		if got, e := rotation.Apply([4]int{1, 2, 3, 4}, v); got != (api.Vector{}) || e != api.ErrNumber {
			t.Errorf("Apply with %v = %v, %d", v, got, e)
		}
	}
}

func TestAbout(t *testing.T) {
	quarter := [3]api.Vector{of("0 -1 0"), of("1 0 0"), of("0 0 1")}
	back := [3]api.Vector{of("-1 0 0"), of("0 -1 0"), of("0 0 1")}
	for _, c := range []struct {
		q      [4]int
		centre api.Vector
		want   api.Affine
		e      api.Errno
	}{
		{[4]int{1, 0, 0, 1}, of("0 0 0"), api.Affine{Rows: quarter, Shift: of("0 0 0")}, api.OK},
		{[4]int{1, 0, 0, 1}, of("1 0 7"), api.Affine{Rows: quarter, Shift: of("1 -1 0")}, api.OK},
		{[4]int{-3, 0, 0, -3}, of("1/2 1/3 7"), api.Affine{Rows: quarter, Shift: of("5/6 -1/6 0")}, api.OK},
		{[4]int{0, 0, 0, 1}, api.Vector{X: "1", Y: "0", Z: most}, api.Affine{Rows: back, Shift: of("2 0 0")}, api.OK},
		{[4]int{0, 0, 0, 1}, api.Vector{X: most, Y: "0", Z: "0"}, api.Affine{}, api.ErrLimit},
		{[4]int{0, 0, 0, 1}, api.Vector{X: "0", Y: most, Z: "0"}, api.Affine{}, api.ErrLimit},
		{[4]int{0, 1, 0, 0}, api.Vector{X: "0", Y: "0", Z: most}, api.Affine{}, api.ErrLimit},
		{[4]int{0, 0, 0, 1}, api.Vector{X: rational.Mul(most, "1/3"), Y: "0", Z: "0"}, api.Affine{Rows: back, Shift: api.Vector{X: rational.Mul(most, "2/3"), Y: "0", Z: "0"}}, api.OK},
		// X of the rotated centre has 201 digits, but no number of the shift has.
		{[4]int{2, 0, 0, 1}, api.Vector{X: "990" + zeros, Y: "-515" + zeros, Z: "0"}, api.Affine{Rows: matrix([4]int{2, 0, 0, 1}), Shift: api.Vector{X: "-16" + zeros, Y: "-998" + zeros, Z: "0"}}, api.OK},
	} {
		if got, e := rotation.About(c.q, c.centre); got != c.want || e != c.e {
			t.Errorf("About(%v, %v) = %v, %d", c.q, c.centre, got, e)
		}
	}
	for _, v := range wrongVectors() {
		if got, e := rotation.About([4]int{1, 2, 3, 4}, v); got != (api.Affine{}) || e != api.ErrNumber {
			t.Errorf("About with %v = %v, %d", v, got, e)
		}
	}
}

// TestAboutLaws rotates places about a centre.
func TestAboutLaws(t *testing.T) {
	r := rand.New(rand.NewSource(5))
	for range 500 {
		q, centre, p := anyQuaternion(r, 9), anyVector(r), anyVector(r)
		a, e := rotation.About(q, centre)
		rows, _ := rotation.Matrix(q)
		if a.Rows != rows || e != api.OK {
			t.Fatalf("About(%v, %v) = %v, %d", q, centre, a, e)
		}
		if kept, _ := affine.Apply(a, centre); kept != centre {
			t.Fatalf("About(%v, %v) takes the centre to %v", q, centre, kept)
		}
		from, _ := vector.Sub(p, centre)
		turned, _ := rotation.Apply(q, from)
		want, _ := vector.Add(turned, centre)
		if got, _ := affine.Apply(a, p); got != want {
			t.Fatalf("About(%v, %v) takes %v to %v", q, centre, p, got)
		}
	}
}
