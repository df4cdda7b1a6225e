package matrix

import (
	"math"
	"math/rand"
	"slices"
	"strings"
	"testing"

	"klippe/api"
	"klippe/rational"
	"klippe/samples"
)

var (
	most     = samples.Most()
	notRight = samples.NotRight()
)

// m reads a matrix whose rows are separated by commas; the empty text is the one without rows.
func m(s string) Matrix {
	if s == "" {
		return nil
	}
	return samples.Rows(s)
}

func l(s string) []api.Rational { return samples.Numbers(s) }

func equal(a, b Matrix) bool {
	return slices.EqualFunc(a, b, func(x, y []api.Rational) bool { return slices.Equal(x, y) })
}

func clone(a Matrix) Matrix {
	b := make(Matrix, len(a))
	for i, row := range a {
		b[i] = slices.Clone(row)
	}
	return b
}

// ones makes a matrix of ones.
func ones(rows, columns int) Matrix {
	a := make(Matrix, rows)
	for i := range a {
		a[i] = slices.Repeat([]api.Rational{"1"}, columns)
	}
	return a
}

// anyMatrix makes a matrix of small numbers; often some of its rows are combinations of others.
func anyMatrix(r *rand.Rand, rows, columns int) Matrix {
	a := make(Matrix, rows)
	for i := range a {
		a[i] = anyList(r, columns)
		if i > 1 && r.Intn(3) == 0 {
			k := anyNumber(r)
			for j := range a[i] {
				a[i][j] = rational.Add(a[i-1][j], rational.Mul(k, a[i-2][j]))
			}
		}
	}
	return a
}

func anyList(r *rand.Rand, n int) []api.Rational {
	list := make([]api.Rational, n)
	for i := range list {
		list[i] = anyNumber(r)
	}
	return list
}

// anyNumber makes a small number, often 0.
func anyNumber(r *rand.Rand) api.Rational {
	x, _ := rational.Of(r.Intn(9)-4, 1+r.Intn(3))
	return x
}

func TestCheck(t *testing.T) {
	for _, a := range []Matrix{nil, {}, {{}}, {nil, {}, nil}, m("1 -1/2, 0 7"), ones(12, 12), {{most, "-" + most, "1/" + most}}, make(Matrix, 12)} {
		if e := Check(a); e != api.OK {
			t.Errorf("Check(%v) = %d", a, e)
		}
	}
	for _, c := range []struct {
		a Matrix
		e api.Errno
	}{
		{ones(13, 1), api.ErrLimit}, {ones(1, 13), api.ErrLimit}, {make(Matrix, 13), api.ErrLimit},
		{m("1 2, 3"), api.ErrSize}, {m("1, 2 3"), api.ErrSize}, {Matrix{nil, {"1"}}, api.ErrSize}, {Matrix{{"1"}, {}}, api.ErrSize},
		// Numbers come first, then the limits, then the sizes.
		{append(ones(13, 13), l("1 2 x")), api.ErrNumber}, {m("1 2, 3, x"), api.ErrNumber}, {append(ones(2, 13), l("1")), api.ErrLimit}, {append(ones(12, 2), l("1")), api.ErrLimit}, {append(ones(1, 1), ones(1, 13)...), api.ErrLimit},
	} {
		if e := Check(c.a); e != c.e {
			t.Errorf("Check(%v) = %d, not %d", c.a, e, c.e)
		}
	}
	for _, x := range notRight {
		for _, a := range []Matrix{{{x}}, {{"1", x}}, {{"1", "2"}, {x, "3"}}, {{"1"}, {"1", x}}} {
			if e := Check(a); e != api.ErrNumber {
				t.Errorf("Check(%v) = %d", a, e)
			}
		}
	}
}

func TestIdentity(t *testing.T) {
	for n, want := range map[int]string{0: "", 1: "1", 2: "1 0, 0 1", 3: "1 0 0, 0 1 0, 0 0 1"} {
		if a, e := Identity(n); !equal(a, m(want)) || e != api.OK {
			t.Errorf("Identity(%d) = %v, %d", n, a, e)
		}
	}
	if a, e := Identity(12); len(a) != 12 || len(a[11]) != 12 || a[11][11] != "1" || a[11][10] != "0" || e != api.OK {
		t.Errorf("Identity(12) = %v, %d", a, e)
	}
	for _, n := range []int{-1, 13, math.MaxInt, math.MinInt} {
		if a, e := Identity(n); a != nil || e != api.ErrRange {
			t.Errorf("Identity(%d) = %v, %d", n, a, e)
		}
	}
}

func TestTranspose(t *testing.T) {
	for s, want := range map[string]string{"": "", "1 2, 3 4": "1 3, 2 4", "1 2 3": "1, 2, 3", "1, 2, 3": "1 2 3", "5": "5"} {
		if a, e := Transpose(m(s)); !equal(a, m(want)) || e != api.OK {
			t.Errorf("Transpose(%s) = %v, %d", s, a, e)
		}
	}
	if a, e := Transpose(Matrix{{}, {}}); len(a) != 0 || e != api.OK {
		t.Errorf("Transpose without columns = %v, %d", a, e)
	}
}

func TestMul(t *testing.T) {
	for _, c := range []struct{ a, b, want string }{
		{"", "", ""}, {"1 2, 3 4", "5 6, 7 8", "19 22, 43 50"}, {"1/2 1/3", "2, 3", "2"}, {"2, 3", "1/2 1/3", "1 2/3, 3/2 1"}, {"0 1, 1 0", "1 2 3, 4 5 6", "4 5 6, 1 2 3"},
	} {
		if a, e := Mul(m(c.a), m(c.b)); !equal(a, m(c.want)) || e != api.OK {
			t.Errorf("Mul(%s, %s) = %v, %d", c.a, c.b, a, e)
		}
	}
	// Without columns there are no products to be added.
	if a, e := Mul(Matrix{{}, {}}, nil); !equal(a, Matrix{{}, {}}) || e != api.OK {
		t.Errorf("Mul = %v, %d", a, e)
	}
	if a, e := Mul(m("1, 2"), Matrix{{}}); !equal(a, Matrix{{}, {}}) || e != api.OK {
		t.Errorf("Mul = %v, %d", a, e)
	}
	for _, c := range [][2]Matrix{{m("1 2"), m("1 2")}, {nil, m("1")}, {m("1"), nil}, {Matrix{{}}, m("1")}, {ones(12, 11), ones(12, 12)}} {
		if a, e := Mul(c[0], c[1]); a != nil || e != api.ErrSize {
			t.Errorf("Mul(%v, %v) = %v, %d", c[0], c[1], a, e)
		}
	}
	if a, e := Mul(m("1 2, 11 0"), Matrix{{most}, {"0"}}); a != nil || e != api.ErrLimit {
		t.Errorf("Mul = %v, %d", a, e)
	}
	// On the way numbers are too long, in the result they are not.
	if a, e := Mul(m("11 -11 1"), Matrix{{most}, {most}, {"7"}}); !equal(a, m("7")) || e != api.OK {
		t.Errorf("Mul = %v, %d", a, e)
	}
}

func TestApply(t *testing.T) {
	for _, c := range []struct{ a, x, want string }{{"", "", ""}, {"1 2, 3 4", "5 6", "17 39"}, {"1/2 -1/2, 0 0, 1 1", "1/3 1", "-1/3 0 4/3"}} {
		if y, e := Apply(m(c.a), l(c.x)); !slices.Equal(y, l(c.want)) || e != api.OK {
			t.Errorf("Apply(%s, %s) = %v, %d", c.a, c.x, y, e)
		}
	}
	if y, e := Apply(Matrix{{}, {}}, nil); !slices.Equal(y, l("0 0")) || e != api.OK {
		t.Errorf("Apply = %v, %d", y, e)
	}
	for _, c := range []struct {
		a Matrix
		x string
		e api.Errno
	}{{m("1 2"), "1", api.ErrSize}, {m("1 2"), "1 2 3", api.ErrSize}, {nil, "1", api.ErrSize}, {m("1 2"), "1 x 3", api.ErrNumber}, {m("1 2, 3"), "x", api.ErrSize}, {ones(13, 2), "x", api.ErrLimit}, {m("1 2"), "", api.ErrSize}} {
		if y, e := Apply(c.a, l(c.x)); y != nil || e != c.e {
			t.Errorf("Apply(%v, %s) = %v, %d", c.a, c.x, y, e)
		}
	}
	if y, e := Apply(m("1, 11"), []api.Rational{most}); y != nil || e != api.ErrLimit {
		t.Errorf("Apply = %v, %d", y, e)
	}
}

// TestErrors hands matrices that are not right to all functions.
func TestErrors(t *testing.T) {
	right := m("1 2, 3 4")
	bad := map[api.Errno][]Matrix{api.ErrLimit: {ones(13, 13)}, api.ErrSize: {m("1 2, 3")}}
	for _, x := range notRight {
		bad[api.ErrNumber] = append(bad[api.ErrNumber], Matrix{{"1", "2"}, {"3", x}})
	}
	for want, matrices := range bad {
		for _, a := range matrices {
			checkErrors(t, a, want)
			if got, e := Mul(right, a); got != nil || e != want {
				t.Errorf("Mul with %v: %v, %d", a, got, e)
			}
		}
	}
	// Of two matrices the first one counts first.
	if _, e := Mul(ones(13, 1), m("x")); e != api.ErrLimit {
		t.Errorf("Mul: %d", e)
	}
	for _, x := range notRight {
		if y, e := Apply(right, []api.Rational{"1", x}); y != nil || e != api.ErrNumber {
			t.Errorf("Apply with %s: %v, %d", x, y, e)
		}
		if y, kind, e := Solve(right, []api.Rational{x, "1"}); y != nil || kind != 0 || e != api.ErrNumber {
			t.Errorf("Solve with %s: %v, %d, %d", x, y, kind, e)
		}
	}
}

// checkErrors expects an error of all functions with one matrix, and nothing else.
func checkErrors(t *testing.T, a Matrix, want api.Errno) {
	t.Helper()
	expect := func(name string, zero bool, e api.Errno) {
		t.Helper()
		if !zero || e != want {
			t.Errorf("%s of %v: %d, not %d, or a result beside it", name, a, e, want)
		}
	}
	transposed, e := Transpose(a)
	expect("Transpose", transposed == nil, e)
	product, e := Mul(a, m("1"))
	expect("Mul", product == nil, e)
	sums, e := Apply(a, l("x"))
	expect("Apply", sums == nil, e)
	form, lead, e := Reduce(a)
	expect("Reduce", form == nil && lead == nil, e)
	rank, e := Rank(a)
	expect("Rank", rank == 0, e)
	determinant, e := Determinant(a)
	expect("Determinant", determinant == "", e)
	inverse, e := Inverse(a)
	expect("Inverse", inverse == nil, e)
	kernel, e := Kernel(a)
	expect("Kernel", kernel == nil, e)
	x, kind, e := Solve(a, l("x"))
	expect("Solve", x == nil && kind == 0, e)
}

// TestKept looks whether results share memory with arguments, or with each other.
func TestKept(t *testing.T) {
	a := m("1 2 3, 4 5 6, 7 8 10")
	before := clone(a)
	identity, _ := Identity(3)
	transposed, _ := Transpose(a)
	product, _ := Mul(a, identity)
	form, lead, _ := Reduce(a)
	inverse, _ := Inverse(a)
	kernel, _ := Kernel(m("1 2 3 4"))
	right := l("1 2 3")
	x, _, _ := Solve(a, right)
	for _, result := range []Matrix{identity, transposed, product, form, inverse, kernel, {x}} {
		copied := clone(result)
		for i, row := range result {
			for j := range row {
				row[j] = "77"
			}
			if i+1 < len(result) && !equal(result[i+1:], copied[i+1:]) {
				t.Errorf("rows of a result share memory")
			}
		}
	}
	if !equal(a, before) || !slices.Equal(right, l("1 2 3")) || !slices.Equal(lead, []int{0, 1, 2}) {
		t.Errorf("an argument or a result has changed: %v, %v, %v", a, right, lead)
	}
}

// long is a number of so many digits.
func long(digits int) api.Rational { return api.Rational(strings.Repeat("7", digits)) }
