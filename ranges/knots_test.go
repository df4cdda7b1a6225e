package ranges

import (
	"math/rand"
	"slices"
	"strings"
	"testing"

	"klippe/api"
	"klippe/rational"
)

// k makes a function of pairs of numbers.
func k(s string) []api.Knot {
	var f []api.Knot
	for _, p := range strings.Fields(s) {
		at, v, _ := strings.Cut(p, ":")
		f = append(f, api.Knot{At: api.Rational(at), Value: api.Rational(v)})
	}
	return f
}

const hill = "0:0 2:4 3:4 5:0"

// comb makes a function with n knots.
func comb(n int) []api.Knot {
	f := make([]api.Knot, n)
	for i := range f {
		f[i] = api.Knot{At: rational.Whole(i), Value: rational.Whole(i % 2)}
	}
	return f
}

func TestCheckKnots(t *testing.T) {
	for s, want := range map[string]api.Errno{
		hill: api.OK, "7:-1/2": api.OK, "": api.ErrEmpty, "0:0 0:1": api.ErrOrder, "0:0 1:1 1/2:3": api.ErrOrder, "0:x": api.ErrNumber, "x:0": api.ErrNumber, "0:0 0:x": api.ErrNumber, "1:0 0:0 x:x": api.ErrOrder, "0:0 x:0 -1:0": api.ErrNumber,
	} {
		if e := CheckKnots(k(s)); e != want {
			t.Errorf("CheckKnots(%s) = %d", s, e)
		}
	}
	if e := CheckKnots(comb(MaxKnots)); e != api.OK {
		t.Errorf("CheckKnots of %d knots: %d", MaxKnots, e)
	}
	if e := CheckKnots(make([]api.Knot, MaxKnots+1)); e != api.ErrLimit {
		t.Errorf("CheckKnots of too many knots: %d", e)
	}
	for _, x := range notRight {
		if CheckKnots([]api.Knot{{At: x, Value: "0"}}) != api.ErrNumber || CheckKnots([]api.Knot{{At: "0", Value: x}}) != api.ErrNumber {
			t.Errorf("CheckKnots with %s", x)
		}
	}
}

func TestValueAndSegment(t *testing.T) {
	for _, c := range []struct {
		f       string
		x, v    api.Rational
		segment int
	}{
		{hill, "-1", "0", 0}, {hill, "0", "0", 1}, {hill, "1", "2", 1}, {hill, "1/3", "2/3", 1}, {hill, "2", "4", 2}, {hill, "5/2", "4", 2}, {hill, "3", "4", 3}, {hill, "4", "2", 3}, {hill, "5", "0", 4}, {hill, "6", "0", 4},
		{"1:7", "0", "7", 0}, {"1:7", "1", "7", 1}, {"1:7", "2", "7", 1}, {"-1:3 1:-4", "-3", "3", 0}, {"-1:3 1:-4", "0", "-1/2", 1}, {"-1:3 1:-4", "3", "-4", 2},
	} {
		if v, e := Value(k(c.f), c.x); v != c.v || e != api.OK {
			t.Errorf("Value(%s, %s) = %s, %d", c.f, c.x, v, e)
		}
		if n, e := Segment(k(c.f), c.x); n != c.segment || e != api.OK {
			t.Errorf("Segment(%s, %s) = %d, %d", c.f, c.x, n, e)
		}
	}
	for _, x := range notRight {
		if v, e := Value(k(hill), x); v != "" || e != api.ErrNumber {
			t.Errorf("Value at %s: %s, %d", x, v, e)
		}
		if n, e := Segment(k(hill), x); n != 0 || e != api.ErrNumber {
			t.Errorf("Segment of %s: %d, %d", x, n, e)
		}
		if v, e := Value(nil, x); v != "" || e != api.ErrEmpty {
			t.Errorf("Value of nothing at %s: %s, %d", x, v, e)
		}
		if n, e := Segment(k("1:0 0:0"), x); n != 0 || e != api.ErrOrder {
			t.Errorf("Segment of %s: %d, %d", x, n, e)
		}
	}
	steep := []api.Knot{{At: "0", Value: "0"}, {At: "1/" + most, Value: most}}
	if v, e := Value(steep, rational.Mul("1/2", steep[1].At)); v != "" || e != api.ErrNumber {
		t.Errorf("Value = %s, %d", v, e)
	}
	if v, e := Value([]api.Knot{{At: "0", Value: "0"}, {At: "1", Value: "1/" + most}}, "1/2"); v != "" || e != api.ErrLimit {
		t.Errorf("Value = %s, %d", v, e)
	}
	// The slope is too long, but not the value.
	if v, e := Value([]api.Knot{{At: "0", Value: "0"}, {At: "1/" + most, Value: most}}, "1/"+most); v != most || e != api.OK {
		t.Errorf("Value = %s, %d", v, e)
	}
	if v, e := Value([]api.Knot{{At: "0", Value: "0"}, {At: "1/3" + api.Rational(strings.Repeat("0", 199)), Value: most}}, "1/6"+api.Rational(strings.Repeat("0", 199))); v != rational.Mul(most, "1/2") || e != api.OK {
		t.Errorf("Value = %s, %d", v, e)
	}
}

func TestSlope(t *testing.T) {
	for i, want := range []api.Rational{"0", "2", "0", "-2", "0"} {
		if x, e := Slope(k(hill), i); x != want || e != api.OK {
			t.Errorf("Slope %d = %s, %d", i, x, e)
		}
	}
	for i := range 2 {
		if x, e := Slope(k("3:5"), i); x != "0" || e != api.OK {
			t.Errorf("Slope %d = %s, %d", i, x, e)
		}
	}
	for _, i := range []int{-1, 5, -1 << 63, 1<<63 - 1} {
		if x, e := Slope(k(hill), i); x != "" || e != api.ErrRange {
			t.Errorf("Slope %d = %s, %d", i, x, e)
		}
		if x, e := Slope(nil, i); x != "" || e != api.ErrEmpty {
			t.Errorf("Slope %d of nothing = %s, %d", i, x, e)
		}
	}
	if x, e := Slope([]api.Knot{{At: "0", Value: "0"}, {At: "1/" + most, Value: "10"}}, 1); x != "" || e != api.ErrLimit {
		t.Errorf("Slope = %s, %d", x, e)
	}
}

func TestAddAndSimplify(t *testing.T) {
	for _, c := range []struct{ f, g, sum string }{
		{hill, "0:1 2:-3 3:-3 5:1", "0:1 2:1 3:1 5:1"},
		{"0:0 1:1", "5:2", "0:2 1:3 5:3"},
		{"0:0 2:2", "1:1 3:5", "0:1 1:2 2:5 3:7"},
		{"1/2:1/3", "1/2:1/6", "1/2:1/2"},
	} {
		for _, l := range [][2]string{{c.f, c.g}, {c.g, c.f}} {
			f, g := k(l[0]), k(l[1])
			if sum, e := Add(f, g); !slices.Equal(sum, k(c.sum)) || e != api.OK {
				t.Errorf("Add(%s, %s) = %v, %d", l[0], l[1], sum, e)
			}
			if !slices.Equal(f, k(l[0])) || !slices.Equal(g, k(l[1])) {
				t.Errorf("Add has changed %s or %s", l[0], l[1])
			}
		}
	}
	for s, want := range map[string]string{
		hill: hill, "0:1 2:1 3:1 5:1": "0:1", "7:2": "7:2", "0:0 1:0 2:3 3:6 4:9 9:9": "1:0 4:9", "0:0 1:1 2:2": "0:0 2:2", "0:0 1:1/3 2:2/3 5:1": "0:0 2:2/3 5:1", "0:5 1:5 2:5 3:4": "2:5 3:4",
	} {
		f := k(s)
		got, e := Simplify(f)
		if !slices.Equal(got, k(want)) || e != api.OK {
			t.Errorf("Simplify(%s) = %v, %d", s, got, e)
		}
		got[0] = api.Knot{}
		if !slices.Equal(f, k(s)) {
			t.Errorf("Simplify(%s) shares memory", s)
		}
	}
}

func TestAddErrors(t *testing.T) {
	empty, order := []api.Knot(nil), k("1:0 0:0")
	for _, c := range []struct {
		f, g []api.Knot
		want api.Errno
	}{{empty, order, api.ErrEmpty}, {order, empty, api.ErrOrder}, {k(hill), empty, api.ErrEmpty}, {k(hill), k("0:x"), api.ErrNumber}, {comb(MaxKnots + 1), empty, api.ErrLimit}, {k(hill), comb(MaxKnots + 1), api.ErrLimit}, {comb(MaxKnots), k("1/2:1"), api.ErrLimit}, {k("0:" + string(most)), k("5:1"), api.ErrLimit}} {
		if sum, e := Add(c.f, c.g); sum != nil || e != c.want {
			t.Errorf("Add(%v, %v) = %v, %d", c.f, c.g, sum, e)
		}
	}
	if sum, e := Add(comb(MaxKnots), comb(50)); len(sum) != MaxKnots || e != api.OK {
		t.Errorf("Add = %v, %d", sum, e)
	}
	if f, e := Simplify(order); f != nil || e != api.ErrOrder {
		t.Errorf("Simplify = %v, %d", f, e)
	}
	if f, e := Simplify(nil); f != nil || e != api.ErrEmpty {
		t.Errorf("Simplify = %v, %d", f, e)
	}
}

func TestIntegral(t *testing.T) {
	for _, c := range []struct {
		f, over string
		want    api.Rational
	}{{hill, "0..5", "12"}, {hill, "-3..9", "12"}, {hill, "1..4", "10"}, {hill, "2..3", "4"}, {hill, "9/4..5/2", "1"}, {hill, "-2..-1", "0"}, {"0:7", "-1/2..1/2", "7"}, {"0:-3 1:3", "-1..2", "0"}, {"0:-3 1:3", "5..6", "3"}, {"0:0 1:1", "1/3..2/3", "1/6"}} {
		if x, e := Integral(k(c.f), u(c.over)[0]); x != c.want || e != api.OK {
			t.Errorf("Integral(%s, %s) = %s, %d", c.f, c.over, x, e)
		}
	}
	for _, c := range []struct {
		f    string
		over Part
		want api.Errno
	}{{"", Part{}, api.ErrEmpty}, {"0:0 0:0", Part{"1", "0"}, api.ErrOrder}, {hill, Part{"x", "0"}, api.ErrNumber}, {hill, Part{"1", "0/2"}, api.ErrNumber}, {hill, Part{"1", "1"}, api.ErrForm}, {hill, Part{"2", "1"}, api.ErrForm}, {"0:10", Part{"0", most}, api.ErrLimit}} {
		if x, e := Integral(k(c.f), c.over); x != "" || e != c.want {
			t.Errorf("Integral(%s, %v) = %s, %d", c.f, c.over, x, e)
		}
	}
	// What is above 0 takes away what is below, but for one half.
	high := []api.Knot{{At: "0", Value: most}, {At: "1", Value: most}, {At: "2", Value: rational.Neg(most)}, {At: "4", Value: rational.Neg(most)}}
	if x, e := Integral(high, Part{"-1", "4"}); x != "0" || e != api.OK {
		t.Errorf("Integral = %s, %d", x, e)
	}
}

func TestAbove(t *testing.T) {
	for _, c := range []struct {
		f      string
		height api.Rational
		window string
		want   string
	}{
		{hill, "2", "0..5", "1..4"}, {hill, "2", "-9..9", "1..4"}, {hill, "0", "-9..9", "-9..9"}, {hill, "4", "0..5", "2..3"}, {hill, "5", "0..5", ""}, {hill, "2", "2..9", "2..4"}, {hill, "2", "4..9", ""}, {hill, "2", "0..1", ""}, {hill, "3", "7/4..13/4", "7/4..13/4"},
		{"0:1 1:0 2:1", "0", "-1..3", "-1..3"}, {"0:0 1:1 2:0", "1", "-1..3", ""}, {"0:1 1:-1 2:1", "0", "-1..3", "-1..1/2 3/2..3"}, {"0:0 1:-1 2:0", "0", "-1..3", "-1..0 2..3"}, {"0:0 1:-1 2:0", "0", "0..2", ""},
		{"0:5", "5", "0..1/3", "0..1/3"}, {"0:5", "6", "0..1/3", ""}, {"0:0 3:1", "1/2", "1..2", "3/2..2"}, {"0:0 1:1 2:0 3:1 4:0", "0", "1/2..7/2", "1/2..7/2"}, {"0:-1 1:0 2:-1", "0", "0..2", ""},
	} {
		if l, e := Above(k(c.f), c.height, u(c.window)[0]); !Equal(l, u(c.want)) || e != api.OK {
			t.Errorf("Above(%s, %s, %s) = %v, %d", c.f, c.height, c.window, l, e)
		}
	}
	for _, c := range []struct {
		f      string
		height api.Rational
		window Part
		want   api.Errno
	}{{"", "x", Part{}, api.ErrEmpty}, {hill, "x", Part{"1", "1"}, api.ErrNumber}, {hill, "", Part{"0", "1"}, api.ErrNumber}, {hill, "1", Part{"1", "x"}, api.ErrNumber}, {hill, "1", Part{"1", "1"}, api.ErrForm}, {"0:0 10:1", "1/" + most, Part{"0", "1"}, api.OK}, {"0:0 1/3:1", "1/" + most, Part{"0", "1"}, api.ErrLimit}} {
		if l, e := Above(k(c.f), c.height, c.window); (c.want != api.OK && l != nil) || e != c.want {
			t.Errorf("Above(%s, %s, %v) = %v, %d", c.f, c.height, c.window, l, e)
		}
	}
	f := comb(MaxKnots)
	if l, e := Above(f, "1/2", Part{"0", "99"}); len(l) != 50 || e != api.OK {
		t.Errorf("Above = %v, %d", l, e)
	}
}

// anyFunction makes a function with knots at halves.
func anyFunction(r *rand.Rand) []api.Knot {
	var f []api.Knot
	at := r.Intn(9) - 4
	for range 1 + r.Intn(6) {
		x, _ := rational.Of(at, 2)
		v, _ := rational.Of(r.Intn(7)-3, 1+r.Intn(2))
		f = append(f, api.Knot{At: x, Value: v})
		at += 1 + r.Intn(4)
	}
	return f
}

func TestFunctionLaws(t *testing.T) {
	r := rand.New(rand.NewSource(2))
	for range 400 {
		f, g := anyFunction(r), anyFunction(r)
		sum, e := Add(f, g)
		simple, e2 := Simplify(f)
		if e != api.OK || e2 != api.OK || CheckKnots(sum) != api.OK || CheckKnots(simple) != api.OK {
			t.Fatalf("%v and %v: sum %v, simple %v", f, g, sum, simple)
		}
		for i := -24; i < 60; i++ {
			x, _ := rational.Of(i, 4)
			v, _ := Value(f, x)
			w, _ := Value(g, x)
			s, _ := Value(sum, x)
			if same, _ := Value(simple, x); s != rational.Add(v, w) || same != v {
				t.Fatalf("at %s: %v and %v have the sum %s, simplified %s", x, f, g, s, same)
			}
			// The value at the middle of a quarter tells the slope.
			y, _ := rational.Of(2*i+1, 8)
			next, _ := Value(f, y)
			segment, _ := Segment(f, x)
			if slope, _ := Slope(f, segment); rational.Mul(slope, "1/8") != rational.Sub(next, v) {
				t.Fatalf("slope %s of %v at %s", slope, f, x)
			}
		}
		negative, _ := Add(sum, negated(f))
		rest, _ := Simplify(negative)
		want, _ := Simplify(g)
		if !slices.Equal(rest, want) && (len(want) != 1 || len(rest) != 1 || rest[0].Value != want[0].Value) {
			t.Fatalf("%v is %v simplified, not %v", negative, rest, want)
		}
		checkIntegral(t, f)
		checkAbove(t, r, f)
	}
}

func negated(f []api.Knot) []api.Knot {
	var l []api.Knot
	for _, k := range f {
		l = append(l, api.Knot{At: k.At, Value: rational.Neg(k.Value)})
	}
	return l
}

// checkIntegral compares the integral with the sum over halves, on which the function is linear.
func checkIntegral(t *testing.T, f []api.Knot) {
	t.Helper()
	total := api.Rational("0")
	for i := -10; i < 30; i++ {
		low, _ := rational.Of(i, 2)
		high, _ := rational.Of(i+1, 2)
		middle, _ := Value(f, rational.Middle(low, high))
		piece, _ := Integral(f, Part{low, high})
		if piece != rational.Mul(middle, "1/2") {
			t.Fatalf("Integral(%v, %s..%s) = %s", f, low, high, piece)
		}
		total = rational.Add(total, piece)
		if whole, _ := Integral(f, Part{"-5", high}); whole != total {
			t.Fatalf("Integral(%v, -5..%s) = %s", f, high, whole)
		}
	}
}

// checkAbove looks at what is above a height, and at what is below it.
func checkAbove(t *testing.T, r *rand.Rand, f []api.Knot) {
	t.Helper()
	height, _ := rational.Of(r.Intn(13)-6, 2)
	window := Part{"-5", "10"}
	above, e := Above(f, height, window)
	below, e2 := Above(negated(f), rational.Neg(height), window)
	both, _ := Union(above, below)
	if e != api.OK || e2 != api.OK || !Equal(both, []Part{window}) {
		t.Fatalf("%v is above %s in %v, below in %v", f, height, above, below)
	}
	for i := -60; i < 120; i++ {
		// No knot and no crossing is at such a number.
		x, _ := rational.Of(13*i+1, 13*12)
		v, _ := Value(f, x)
		if is, _ := Contains(above, x); is != (rational.Compare(v, height) >= 0) {
			t.Fatalf("%v at %s is above %s: %t", f, x, height, is)
		}
	}
}

func TestLongFunctions(t *testing.T) {
	f := make([]api.Knot, MaxKnots)
	for i := range f {
		f[i] = api.Knot{At: rational.Add(rational.Whole(i), "1/"+most[:195-i/2]), Value: rational.Mul("1/7", rational.Whole(i))}
	}
	if e := CheckKnots(f); e != api.OK {
		t.Fatal(e)
	}
	if _, e := Integral(f, Part{"-1", "200"}); e != api.ErrLimit {
		t.Errorf("Integral: %d", e)
	}
	if _, e := Above(f, "5/3", Part{"-1", "200"}); e != api.ErrLimit {
		t.Errorf("Above: %d", e)
	}
}
