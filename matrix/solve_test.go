package matrix

import (
	"math/big"
	"math/rand"
	"slices"
	"testing"

	"klippe/api"
	"klippe/rational"
)

// plain finds the reduced form step by step, and the determinant of a square matrix, with package big.
func plain(a Matrix) (form Matrix, lead []int, determinant api.Rational) {
	rows := make([][]*big.Rat, len(a))
	for i, row := range a {
		for _, x := range row {
			n, _ := new(big.Rat).SetString(string(x))
			rows[i] = append(rows[i], n)
		}
	}
	product := big.NewRat(1, 1)
	for column := range columnsOf(a) {
		top := len(lead)
		found := slices.IndexFunc(rows[top:], func(row []*big.Rat) bool { return row[column].Sign() != 0 })
		if found < 0 {
			continue
		}
		if found > 0 {
			rows[top], rows[top+found] = rows[top+found], rows[top]
			product.Neg(product)
		}
		product.Mul(product, rows[top][column])
		plainLower(rows, top, column)
		lead = append(lead, column)
	}
	for _, row := range rows[:len(lead)] {
		var texts []api.Rational
		for _, x := range row {
			texts = append(texts, api.Rational(x.RatString()))
		}
		form = append(form, texts)
	}
	if len(lead) < len(a) {
		product.SetInt64(0)
	}
	return form, lead, api.Rational(product.RatString())
}

func plainLower(rows [][]*big.Rat, top, column int) {
	first := new(big.Rat).Inv(rows[top][column])
	for j := range rows[top] {
		rows[top][j] = new(big.Rat).Mul(rows[top][j], first)
	}
	for i, row := range rows {
		factor := new(big.Rat).Set(row[column])
		if i == top {
			continue
		}
		for j := range row {
			row[j] = new(big.Rat).Sub(row[j], new(big.Rat).Mul(factor, rows[top][j]))
		}
	}
}

func TestReduce(t *testing.T) {
	for _, c := range []struct {
		a, form string
		lead    []int
	}{
		{"", "", nil}, {"1 2, 2 4", "1 2", []int{0}}, {"0 0, 0 0", "", nil}, {"0 2 4", "0 1 2", []int{1}}, {"0 0 3, 0 2 1", "0 1 0, 0 0 1", []int{1, 2}},
		{"1 2 3, 2 4 7", "1 2 0, 0 0 1", []int{0, 2}}, {"1/2 1/3, 1/4 1/5", "1 0, 0 1", []int{0, 1}}, {"1, 2, 3", "1", []int{0}}, {"0, 0, -3", "1", []int{0}},
	} {
		form, lead, e := Reduce(m(c.a))
		if !equal(form, m(c.form)) || !slices.Equal(lead, c.lead) || e != api.OK {
			t.Errorf("Reduce(%s) = %v, %v, %d", c.a, form, lead, e)
		}
		if rank, e := Rank(m(c.a)); rank != len(c.lead) || e != api.OK {
			t.Errorf("Rank(%s) = %d, %d", c.a, rank, e)
		}
	}
	if form, lead, e := Reduce(Matrix{{}, {}}); len(form)+len(lead) != 0 || e != api.OK {
		t.Errorf("Reduce without columns = %v, %v, %d", form, lead, e)
	}
	if form, lead, e := Reduce(Matrix{{"1", "11"}, {"1/" + most, "0"}}); !equal(form, m("1 0, 0 1")) || !slices.Equal(lead, []int{0, 1}) || e != api.OK {
		t.Errorf("Reduce = %v, %v, %d", form, lead, e)
	}
	if form, lead, e := Reduce(Matrix{{"1/7", "11"}, {"1", "77"}, {"1/" + most, "0"}}); !equal(form, m("1 0, 0 1")) || !slices.Equal(lead, []int{0, 1}) || e != api.OK {
		t.Errorf("Reduce = %v, %v, %d", form, lead, e)
	}
	a := Matrix{{"1/11", most}}
	if form, lead, e := Reduce(a); form != nil || lead != nil || e != api.ErrLimit {
		t.Errorf("Reduce = %v, %v, %d", form, lead, e)
	}
	if rank, e := Rank(a); rank != 1 || e != api.OK {
		t.Errorf("Rank = %d, %d", rank, e)
	}
}

func TestDeterminant(t *testing.T) {
	for s, want := range map[string]api.Rational{"": "1", "1 2, 3 4": "-2", "0 1, 1 0": "-1", "5": "5", "-1/2": "-1/2", "1 2, 2 4": "0", "0": "0", "2 0 0, 0 1/3 0, 7 8 -9": "-6", "0 0 1, 1 0 0, 0 1 0": "1", "0 0 1, 0 1 0, 1 0 0": "-1", "1/2 1/3, 1/4 1/5": "1/60"} {
		if d, e := Determinant(m(s)); d != want || e != api.OK {
			t.Errorf("Determinant(%s) = %s, %d", s, d, e)
		}
	}
	for _, a := range []Matrix{m("1 2"), m("1, 2"), {{}}, {{}, {}}, ones(11, 12)} {
		d, e1 := Determinant(a)
		inverse, e2 := Inverse(a)
		if d != "" || inverse != nil || e1 != api.ErrSize || e2 != api.ErrSize {
			t.Errorf("of %v: %s, %d, and %v, %d", a, d, e1, inverse, e2)
		}
	}
	if d, e := Determinant(Matrix{{most, "0"}, {"0", "11"}}); d != "" || e != api.ErrLimit {
		t.Errorf("Determinant = %s, %d", d, e)
	}
	if d, e := Determinant(Matrix{{most, "0"}, {"0", "1/" + most}}); d != "1" || e != api.OK {
		t.Errorf("Determinant = %s, %d", d, e)
	}
	if d, e := Determinant(Matrix{{most, most}, {most, most}}); d != "0" || e != api.OK {
		t.Errorf("Determinant = %s, %d", d, e)
	}
}

func TestInverse(t *testing.T) {
	for s, want := range map[string]string{"": "", "1 2, 3 4": "-2 1, 3/2 -1/2", "-2/3": "-3/2", "0 1, 1 0": "0 1, 1 0", "0 2 0, 0 0 3, 4 0 0": "0 0 1/4, 1/2 0 0, 0 1/3 0"} {
		if a, e := Inverse(m(s)); !equal(a, m(want)) || e != api.OK {
			t.Errorf("Inverse(%s) = %v, %d", s, a, e)
		}
	}
	for _, a := range []Matrix{m("1 2, 2 4"), m("0"), m("0 0, 0 0"), ones(12, 12), m("0 1, 0 1"), {{most, "11"}, {most, "11"}}} {
		if inverse, e := Inverse(a); inverse != nil || e != api.ErrDependent {
			t.Errorf("Inverse(%v) = %v, %d", a, inverse, e)
		}
	}
	if inverse, e := Inverse(Matrix{{"1", long(200)}, {"11", "0"}}); inverse != nil || e != api.ErrLimit {
		t.Errorf("Inverse = %v, %d", inverse, e)
	}
	if inverse, e := Inverse(Matrix{{"1", most}, {"0", "1"}}); !equal(inverse, Matrix{{"1", "-" + most}, {"0", "1"}}) || e != api.OK {
		t.Errorf("Inverse = %v, %d", inverse, e)
	}
}

func TestKernel(t *testing.T) {
	for s, want := range map[string]string{"": "", "1 2, 2 4": "-2 1", "1 2, 3 4": "", "0 0": "1 0, 0 1", "0 1 2": "1 0 0, 0 -2 1", "1 2 0 3, 0 0 1 1/2": "-2 1 0 0, -3 0 -1/2 1"} {
		if a, e := Kernel(m(s)); !equal(a, m(want)) || e != api.OK {
			t.Errorf("Kernel(%s) = %v, %d", s, a, e)
		}
	}
	if a, e := Kernel(Matrix{{}, {}}); len(a) != 0 || e != api.OK {
		t.Errorf("Kernel without columns = %v, %d", a, e)
	}
	if a, e := Kernel(Matrix{{"1/11", "1", most}}); a != nil || e != api.ErrLimit {
		t.Errorf("Kernel = %v, %d", a, e)
	}
}

func TestSolve(t *testing.T) {
	for _, c := range []struct {
		a, right, x string
		kind        int
	}{
		{"2 1, 1 -1", "3 0", "1 1", One}, {"1 1", "1", "1 0", Many}, {"1 1, 1 1", "1 2", "", None}, {"", "", "", One},
		{"0 2", "3", "0 3/2", Many}, {"0 0, 0 0", "0 0", "0 0", Many}, {"0", "0", "0", Many}, {"0", "1", "", None}, {"1, 2", "3 6", "3", One}, {"1, 2", "3 7", "", None}, {"1 2 3, 2 4 7", "1 2", "1 0 0", Many}, {"1 2 3, 2 4 7", "1 3", "-2 0 1", Many},
	} {
		if x, kind, e := Solve(m(c.a), l(c.right)); !slices.Equal(x, l(c.x)) || kind != c.kind || e != api.OK {
			t.Errorf("Solve(%s, %s) = %v, %d, %d", c.a, c.right, x, kind, e)
		}
	}
	for right, want := range map[string]int{"0 0": One, "0 1": None} {
		if x, kind, e := Solve(Matrix{{}, {}}, l(right)); len(x) != 0 || kind != want || e != api.OK {
			t.Errorf("Solve without columns = %v, %d, %d", x, kind, e)
		}
	}
	for _, c := range []struct {
		a, right string
		e        api.Errno
	}{{"1 2", "1 2", api.ErrSize}, {"1 2", "", api.ErrSize}, {"", "1", api.ErrSize}, {"1 2", "1 x", api.ErrNumber}, {"1 2, 1", "x", api.ErrSize}} {
		if x, kind, e := Solve(m(c.a), l(c.right)); x != nil || kind != 0 || e != c.e {
			t.Errorf("Solve(%s, %s) = %v, %d, %d", c.a, c.right, x, kind, e)
		}
	}
	if x, kind, e := Solve(m("1/11"), []api.Rational{most}); x != nil || kind != 0 || e != api.ErrLimit {
		t.Errorf("Solve = %v, %d, %d", x, kind, e)
	}
	if x, kind, e := Solve(Matrix{{"1/11"}, {"1/11"}}, []api.Rational{most, "1"}); x != nil || kind != None || e != api.OK {
		t.Errorf("Solve = %v, %d, %d", x, kind, e)
	}
	// With the greatest number of columns there is still the right side.
	a, _ := Identity(12)
	right := slices.Repeat(l("1/2 -3"), 6)
	if x, kind, e := Solve(a, right); !slices.Equal(x, right) || kind != One || e != api.OK {
		t.Errorf("Solve = %v, %d, %d", x, kind, e)
	}
}

func TestLaws(t *testing.T) {
	r := rand.New(rand.NewSource(1))
	for i := range 1200 {
		size := []int{3, 4, 5, 12}[i%4]
		a := anyMatrix(r, r.Intn(size+1), 1+r.Intn(size))
		form, lead, e := Reduce(a)
		want, wantLead, _ := plain(a)
		if !equal(form, want) || !slices.Equal(lead, wantLead) || e != api.OK {
			t.Fatalf("Reduce(%v) = %v, %v, %d", a, form, lead, e)
		}
		again, _, _ := Reduce(form)
		transposed, _ := Transpose(a)
		back, _ := Transpose(transposed)
		rank, _ := Rank(a)
		other, _ := Rank(transposed)
		kernel, e := Kernel(a)
		if !equal(again, form) || !equal(back, a) || rank != len(lead) || other != rank || rank+len(kernel) != columnsOf(a) || e != api.OK {
			t.Fatalf("of %v: the form %v again %v, the ranks %d and %d, the kernel %v", a, form, again, rank, other, kernel)
		}
		checkSystem(t, r, a, lead, kernel)
	}
}

// checkSystem solves systems of equations, and looks at the lists of the kernel.
func checkSystem(t *testing.T, r *rand.Rand, a Matrix, lead []int, kernel Matrix) {
	t.Helper()
	right := anyList(r, len(a))
	if r.Intn(3) > 0 {
		right, _ = Apply(a, anyList(r, columnsOf(a)))
	}
	x, kind, e := Solve(a, right)
	_, wantLead, _ := plain(beside(a, func(i int) []api.Rational { return right[i : i+1] }))
	want := One
	if len(wantLead) > len(lead) {
		want = None
	} else if len(lead) < columnsOf(a) {
		want = Many
	}
	if kind != want || e != api.OK {
		t.Fatalf("Solve(%v, %v) = %v, %d, %d", a, right, x, kind, e)
	}
	zeros := slices.Repeat(l("0"), len(a))
	for k, list := range kernel {
		if sums, _ := Apply(a, list); !slices.Equal(sums, zeros) {
			t.Fatalf("%v is not in the kernel of %v", list, a)
		}
		if kind == None {
			continue
		}
		further := make([]api.Rational, len(list))
		for j := range list {
			further[j] = rational.Add(x[j], rational.Mul(rational.Whole(k+2), list[j]))
		}
		if sums, _ := Apply(a, further); !slices.Equal(sums, right) {
			t.Fatalf("%v does not solve %v with %v", further, a, right)
		}
	}
	if sums, _ := Apply(a, x); kind != None && !slices.Equal(sums, right) {
		t.Fatalf("%v does not solve %v with %v", x, a, right)
	}
	for j := range x {
		if !slices.Contains(lead, j) && x[j] != "0" {
			t.Fatalf("%v is not the first solution of %v with %v", x, a, right)
		}
	}
}

func TestSquareLaws(t *testing.T) {
	r := rand.New(rand.NewSource(2))
	for range 600 {
		n := r.Intn(6)
		a, b := anyMatrix(r, n, n), anyMatrix(r, n, n)
		first, _ := Determinant(a)
		second, _ := Determinant(b)
		product, _ := Mul(a, b)
		both, _ := Determinant(product)
		transposed, _ := Transpose(a)
		turned, _ := Determinant(transposed)
		_, _, want := plain(a)
		if first != want || both != rational.Mul(first, second) || turned != first {
			t.Fatalf("the determinants of %v and %v are %s and %s, of the product %s, of the transposed one %s", a, b, first, second, both, turned)
		}
		inverse, e := Inverse(a)
		if (e == api.ErrDependent) != (first == "0") {
			t.Fatalf("Inverse(%v) = %v, %d", a, inverse, e)
		}
		unit, _ := Identity(n)
		one, _ := Mul(a, inverse)
		other, _ := Mul(inverse, a)
		if e == api.OK && (!equal(one, unit) || !equal(other, unit)) {
			t.Fatalf("Inverse(%v) = %v", a, inverse)
		}
	}
}

// TestGreatest calculates with the greatest matrices, also with long numbers.
func TestGreatest(t *testing.T) {
	r := rand.New(rand.NewSource(3))
	digits := func(n int) api.Rational {
		b := []byte(long(n))
		for i := range b {
			b[i] = byte('1' + r.Intn(9))
		}
		return api.Rational(b)
	}
	for _, n := range []int{1, 15, 200} {
		a := make(Matrix, MaxSize)
		for i := range a {
			for range MaxSize {
				a[i] = append(a[i], digits(n))
			}
		}
		_, _, want := plain(a)
		determinant, e := Determinant(a)
		if n < 17 && (determinant != want || e != api.OK) || n > 17 && e != api.ErrLimit {
			t.Errorf("Determinant with %d digits: %s, %d", n, determinant, e)
		}
		inverse, e := Inverse(a)
		unit, _ := Identity(MaxSize)
		product, _ := Mul(inverse, a)
		if n < 15 && (!equal(product, unit) || e != api.OK) || n > 15 && e != api.ErrLimit {
			t.Errorf("Inverse with %d digits: %d", n, e)
		}
		if rank, e := Rank(a); rank != MaxSize || e != api.OK {
			t.Errorf("Rank with %d digits: %d, %d", n, rank, e)
		}
	}
}
