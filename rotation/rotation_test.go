package rotation_test

import (
	"math"
	"math/rand"
	"testing"

	"klippe/api"
	"klippe/rational"
	"klippe/rotation"
	"klippe/samples"
)

const maxPart = rotation.MaxPart

var (
	most = samples.Most()
	tiny = "1/" + most
)

func of(s string) api.Vector          { return samples.Vector(s) }
func ratio(num, den int) api.Rational { x, _ := rational.Of(num, den); return x }

func anyNumber(r *rand.Rand) api.Rational { return ratio(r.Intn(9)-4, 1+r.Intn(2)*r.Intn(4)) }

func anyVector(r *rand.Rand) api.Vector {
	return api.Vector{X: anyNumber(r), Y: anyNumber(r), Z: anyNumber(r)}
}

// anyQuaternion makes one with parts of at most a magnitude.
func anyQuaternion(r *rand.Rand, most int) [4]int {
	for {
		var t [4]int
		for i := range t {
			t[i] = r.Intn(2*most+1) - most
		}
		if t != [4]int{} {
			return t
		}
	}
}

// wrong is a quaternion with its error.
type wrong struct {
	t [4]int
	e api.Errno
}

func wrongs() []wrong {
	l := []wrong{{[4]int{}, api.ErrZero}}
	for i := range 4 {
		for _, part := range []int{maxPart + 1, -maxPart - 1, math.MaxInt, math.MinInt} {
			t := [4]int{}
			t[i] = part
			l = append(l, wrong{t, api.ErrRange})
		}
	}
	return l
}

// wrongVectors has vectors of which a number is not right; the others are 0.
func wrongVectors() []api.Vector {
	var l []api.Vector
	for _, x := range samples.NotRight() {
		l = append(l, api.Vector{X: x, Y: "0", Z: "0"}, api.Vector{X: "0", Y: x, Z: "0"}, api.Vector{X: "0", Y: "0", Z: x})
	}
	return l
}

// TestQuaternionErrors gives each function wrong quaternions, and wrong arguments behind them.
func TestQuaternionErrors(t *testing.T) {
	none := [4]int{}
	calls := map[string]func(q [4]int) (bool, api.Errno){
		"Check":          func(q [4]int) (bool, api.Errno) { return true, rotation.Check(q) },
		"Primitive":      func(q [4]int) (bool, api.Errno) { x, e := rotation.Primitive(q); return x == none, e },
		"Inverse":        func(q [4]int) (bool, api.Errno) { x, e := rotation.Inverse(q); return x == none, e },
		"Order":          func(q [4]int) (bool, api.Errno) { n, finite, e := rotation.Order(q); return n == 0 && !finite, e },
		"Matrix":         func(q [4]int) (bool, api.Errno) { x, e := rotation.Matrix(q); return x == [3]api.Vector{}, e },
		"Apply":          func(q [4]int) (bool, api.Errno) { x, e := rotation.Apply(q, of("x 0 0")); return x == api.Vector{}, e },
		"About":          func(q [4]int) (bool, api.Errno) { x, e := rotation.About(q, of("x 0 0")); return x == api.Affine{}, e },
		"Axis":           func(q [4]int) (bool, api.Errno) { x, e := rotation.Axis(q); return x == api.Vector{}, e },
		"Cosine":         func(q [4]int) (bool, api.Errno) { x, e := rotation.Cosine(q); return x == "", e },
		"first Same":     func(q [4]int) (bool, api.Errno) { x, e := rotation.Same(q, [4]int{1}); return !x, e },
		"second Same":    func(q [4]int) (bool, api.Errno) { x, e := rotation.Same([4]int{1}, q); return !x, e },
		"first Compose":  func(q [4]int) (bool, api.Errno) { x, e := rotation.Compose(q, [4]int{1}); return x == none, e },
		"second Compose": func(q [4]int) (bool, api.Errno) { x, e := rotation.Compose([4]int{1}, q); return x == none, e },
	}
	for name, call := range calls {
		for _, w := range wrongs() {
			if isZero, e := call(w.t); !isZero || e != w.e {
				t.Errorf("%s(%v): %t, %d", name, w.t, isZero, e)
			}
		}
	}
	far, zero := [4]int{0, 0, 0, maxPart + 1}, [4]int{}
	for _, c := range []struct {
		a, b [4]int
		e    api.Errno
	}{{far, zero, api.ErrRange}, {zero, far, api.ErrZero}} {
		if same, e := rotation.Same(c.a, c.b); same || e != c.e {
			t.Errorf("Same(%v, %v) = %t, %d", c.a, c.b, same, e)
		}
		if both, e := rotation.Compose(c.a, c.b); both != zero || e != c.e {
			t.Errorf("Compose(%v, %v) = %v, %d", c.a, c.b, both, e)
		}
	}
}

func TestCheck(t *testing.T) {
	for _, q := range [][4]int{{1}, {0, 0, 0, -1}, {maxPart, -maxPart, maxPart, -maxPart}, {-maxPart, 0, 0, 0}} {
		if e := rotation.Check(q); e != api.OK {
			t.Errorf("Check(%v) = %d", q, e)
		}
	}
	if e := rotation.Check([4]int{0, 0, maxPart + 1, 0}); e != api.ErrRange {
		t.Errorf("Check = %d", e)
	}
}

func TestPrimitive(t *testing.T) {
	for _, c := range []struct{ q, want [4]int }{
		{[4]int{1, 0, 0, 0}, [4]int{1, 0, 0, 0}},
		{[4]int{-7, 0, 0, 0}, [4]int{1, 0, 0, 0}},
		{[4]int{9, -3, 0, 0}, [4]int{3, -1, 0, 0}},
		{[4]int{-9, -3, 6, 0}, [4]int{3, 1, -2, 0}},
		{[4]int{0, -4, 6, -8}, [4]int{0, 2, -3, 4}},
		{[4]int{0, 0, 5, -10}, [4]int{0, 0, 1, -2}},
		{[4]int{0, 0, -5, -10}, [4]int{0, 0, 1, 2}},
		{[4]int{0, 0, 0, -maxPart}, [4]int{0, 0, 0, 1}},
		{[4]int{6, 10, 15, 0}, [4]int{6, 10, 15, 0}},
		{[4]int{maxPart, -maxPart, maxPart, maxPart}, [4]int{1, -1, 1, 1}},
		{[4]int{-maxPart, maxPart - 1, 0, 2}, [4]int{maxPart, 1 - maxPart, 0, -2}},
	} {
		if got, e := rotation.Primitive(c.q); got != c.want || e != api.OK {
			t.Errorf("Primitive(%v) = %v, %d", c.q, got, e)
		}
	}
}

func TestSame(t *testing.T) {
	for _, c := range []struct {
		a, b [4]int
		want bool
	}{
		{[4]int{1, 2, 3, 4}, [4]int{-2, -4, -6, -8}, true}, {[4]int{0, 3, 0, 0}, [4]int{0, -1, 0, 0}, true}, {[4]int{5, 0, 0, 0}, [4]int{-1, 0, 0, 0}, true},
		{[4]int{2, 4, 6, 8}, [4]int{3, 6, 9, 12}, true}, {[4]int{1, 2, 3, 4}, [4]int{1, 2, 3, -4}, false}, {[4]int{1, 2, 3, 4}, [4]int{-1, 2, 3, 4}, false},
		{[4]int{0, 1, 0, 0}, [4]int{0, 0, 1, 0}, false}, {[4]int{maxPart, 1, 0, 0}, [4]int{maxPart - 1, 1, 0, 0}, false},
	} {
		if got, e := rotation.Same(c.a, c.b); got != c.want || e != api.OK {
			t.Errorf("Same(%v, %v) = %t, %d", c.a, c.b, got, e)
		}
	}
}

func TestCompose(t *testing.T) {
	for _, c := range []struct {
		a, b, want [4]int
		e          api.Errno
	}{
		{[4]int{1, 0, 0, 1}, [4]int{1, 0, 0, 1}, [4]int{0, 0, 0, 1}, api.OK},
		{[4]int{1, 0, 0, 1}, [4]int{1, 0, 0, -1}, [4]int{1, 0, 0, 0}, api.OK},
		{[4]int{0, 1, 0, 0}, [4]int{0, 0, 1, 0}, [4]int{0, 0, 0, 1}, api.OK},
		{[4]int{0, 0, 1, 0}, [4]int{0, 1, 0, 0}, [4]int{0, 0, 0, 1}, api.OK},
		{[4]int{1, 1, 0, 0}, [4]int{1, 0, 1, 0}, [4]int{1, 1, 1, 1}, api.OK},
		{[4]int{1, 0, 1, 0}, [4]int{1, 1, 0, 0}, [4]int{1, 1, 1, -1}, api.OK},
		{[4]int{1, 2, 3, 4}, [4]int{5, 6, 7, 8}, [4]int{10, -2, -5, -4}, api.OK},
		{[4]int{5, 6, 7, 8}, [4]int{1, 2, 3, 4}, [4]int{30, -10, -7, -16}, api.OK},
		{[4]int{maxPart, 1, 0, 0}, [4]int{1, 0, 0, 0}, [4]int{maxPart, 1, 0, 0}, api.OK},
		{[4]int{maxPart, 0, 0, 0}, [4]int{maxPart, 0, 0, maxPart}, [4]int{1, 0, 0, 1}, api.OK},
		// The greatest part is exactly MaxPart, and one more.
		{[4]int{1000, 1, 0, 0}, [4]int{1000, 0, 1, 0}, [4]int{1000000, 1000, 1000, 1}, api.OK},
		{[4]int{1, 1000, 0, 0}, [4]int{0, 1, 1000, 0}, [4]int{1000, -1, -1000, -1000000}, api.OK},
		{[4]int{1001, 1, 0, 0}, [4]int{1000, 0, 1, 0}, [4]int{}, api.ErrLimit},
		{[4]int{1, 1001, 0, 0}, [4]int{0, 1, 1000, 0}, [4]int{}, api.ErrLimit},
		{[4]int{maxPart, maxPart, maxPart, maxPart}, [4]int{maxPart, -maxPart, -maxPart, 1 - maxPart}, [4]int{}, api.ErrLimit},
	} {
		if got, e := rotation.Compose(c.a, c.b); got != c.want || e != c.e {
			t.Errorf("Compose(%v, %v) = %v, %d", c.a, c.b, got, e)
		}
	}
}

func TestInverse(t *testing.T) {
	for _, c := range []struct{ q, want [4]int }{
		{[4]int{1, 2, 3, 4}, [4]int{1, -2, -3, -4}}, {[4]int{-1, 2, 3, 4}, [4]int{1, 2, 3, 4}}, {[4]int{4, 0, -6, 0}, [4]int{2, 0, 3, 0}},
		{[4]int{-3, 0, 0, 0}, [4]int{1, 0, 0, 0}}, {[4]int{0, 2, -4, 0}, [4]int{0, 1, -2, 0}}, {[4]int{0, -2, 4, 0}, [4]int{0, 1, -2, 0}},
		{[4]int{maxPart, maxPart - 1, 0, 0}, [4]int{maxPart, 1 - maxPart, 0, 0}},
	} {
		if got, e := rotation.Inverse(c.q); got != c.want || e != api.OK {
			t.Errorf("Inverse(%v) = %v, %d", c.q, got, e)
		}
	}
}

// TestGroupLaws checks products and inverses of any quaternions.
func TestGroupLaws(t *testing.T) {
	r := rand.New(rand.NewSource(1))
	for range 2000 {
		a, b, c := anyQuaternion(r, 9), anyQuaternion(r, 9), anyQuaternion(r, 9)
		ab, e1 := rotation.Compose(a, b)
		bc, e2 := rotation.Compose(b, c)
		left, e3 := rotation.Compose(ab, c)
		right, e4 := rotation.Compose(a, bc)
		if left != right || max(e1, e2, e3, e4) != api.OK {
			t.Fatalf("%v, %v and %v: %v and %v", a, b, c, left, right)
		}
		inverse, _ := rotation.Inverse(a)
		none, _ := rotation.Compose(inverse, a)
		again, _ := rotation.Compose(inverse, ab)
		if same, _ := rotation.Same(again, b); none != [4]int{1} || !same {
			t.Fatalf("the inverse of %v is %v", a, inverse)
		}
		if primitive, _ := rotation.Primitive(ab); primitive != ab {
			t.Fatalf("Compose(%v, %v) = %v", a, b, ab)
		}
	}
}

func TestAxis(t *testing.T) {
	for _, c := range []struct {
		q    [4]int
		want string
	}{
		{[4]int{1, 0, 0, 1}, "0 0 1"}, {[4]int{1, 0, 0, -1}, "0 0 -1"}, {[4]int{-1, 0, 0, 1}, "0 0 -1"}, {[4]int{-3, 2, -4, 6}, "-1 2 -3"},
		{[4]int{3, 2, -4, 6}, "1 -2 3"}, {[4]int{0, -2, 4, -6}, "1 -2 3"}, {[4]int{0, 0, 0, -5}, "0 0 1"}, {[4]int{4, 0, 6, 10}, "0 3 5"},
	} {
		if got, e := rotation.Axis(c.q); got != of(c.want) || e != api.OK {
			t.Errorf("Axis(%v) = %v, %d", c.q, got, e)
		}
	}
	for _, q := range [][4]int{{1}, {-5}, {maxPart}} {
		if got, e := rotation.Axis(q); got != (api.Vector{}) || e != api.ErrNone {
			t.Errorf("Axis(%v) = %v, %d", q, got, e)
		}
	}
}

func TestCosine(t *testing.T) {
	for _, c := range []struct {
		q    [4]int
		want api.Rational
	}{
		{[4]int{1, 0, 0, 1}, "0"}, {[4]int{2, 0, 0, 1}, "3/5"}, {[4]int{1, 0, 0, 2}, "-3/5"}, {[4]int{-2, 0, 0, 1}, "3/5"}, {[4]int{1, 0, 0, 0}, "1"},
		{[4]int{0, 3, -1, 2}, "-1"}, {[4]int{1, 1, 1, 1}, "-1/2"}, {[4]int{3, 1, 1, 1}, "1/2"}, {[4]int{1, 2, 3, 4}, "-14/15"},
		{[4]int{maxPart, 0, 0, 1}, "999999999999/1000000000001"}, {[4]int{1, maxPart, maxPart, maxPart}, "-2999999999999/3000000000001"},
	} {
		if got, e := rotation.Cosine(c.q); got != c.want || e != api.OK {
			t.Errorf("Cosine(%v) = %s, %d", c.q, got, e)
		}
	}
}

func TestOrder(t *testing.T) {
	for _, c := range []struct {
		q      [4]int
		want   int
		finite bool
	}{
		{[4]int{1, 0, 0, 0}, 1, true}, {[4]int{-maxPart, 0, 0, 0}, 1, true}, {[4]int{0, 3, -1, 2}, 2, true}, {[4]int{1, 1, 1, 1}, 3, true}, {[4]int{-2, 2, -2, 2}, 3, true},
		{[4]int{1, 0, 0, 1}, 4, true}, {[4]int{0, 0, 7, 0}, 2, true}, {[4]int{3, 1, 1, 1}, 6, true}, {[4]int{5, 3, 4, 0}, 4, true},
		{[4]int{2, 0, 0, 1}, 0, false}, {[4]int{1, 0, 0, 2}, 0, false}, {[4]int{maxPart, 0, 0, 1}, 0, false}, {[4]int{1, 1, 1, 0}, 0, false}, {[4]int{1, maxPart, maxPart, maxPart}, 0, false},
	} {
		if got, finite, e := rotation.Order(c.q); got != c.want || finite != c.finite || e != api.OK {
			t.Errorf("Order(%v) = %d, %t, %d", c.q, got, finite, e)
		}
	}
}

// TestOrderLaws repeats any rotations up to twelve times.
func TestOrderLaws(t *testing.T) {
	r := rand.New(rand.NewSource(2))
	counts := map[int]int{}
	for range 3000 {
		q := anyQuaternion(r, 3)
		want, power, e := 0, [4]int{1}, api.OK
		for n := 1; n <= 12 && want == 0 && e == api.OK; n++ {
			// A power that does not fit any more is not the first one.
			if power, e = rotation.Compose(power, q); power == [4]int{1} {
				want = n
			}
		}
		got, finite, e := rotation.Order(q)
		if got != want || finite != (want > 0) || e != api.OK {
			t.Fatalf("Order(%v) = %d, %t, %d, not %d", q, got, finite, e, want)
		}
		counts[got]++
	}
	if len(counts) != 6 {
		t.Errorf("the orders are %v", counts)
	}
}
