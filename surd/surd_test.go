package surd

import (
	"math"
	"math/big"
	"math/rand"
	"slices"
	"strings"
	"testing"

	"klippe/api"
	"klippe/integer"
	"klippe/rational"
)

var most = strings.Repeat("9", api.MaxDigits)

// wrong has surds that are not right, with their errors.
var wrong = []struct {
	s Surd
	e api.Errno
}{
	{make(Surd, 41), api.ErrLimit},
	{Surd{{"", "2"}}, api.ErrNumber},
	{Surd{{"2/4", "-2"}}, api.ErrNumber},
	{Surd{{api.Rational(most + "9"), "2"}}, api.ErrNumber},
	{Surd{{"0", "02"}}, api.ErrZero},
	{Surd{{"1", "02"}}, api.ErrNumber},
	{Surd{{"1", ""}}, api.ErrNumber},
	{Surd{{"1", "1/2"}}, api.ErrNumber},
	{Surd{{"1", api.Int(most + "9")}}, api.ErrNumber},
	{Surd{{"1", "0"}}, api.ErrRange},
	{Surd{{"1", "-2"}}, api.ErrRange},
	{Surd{{"1", "4"}}, api.ErrForm},
	{Surd{{"1", "1000000000000000000000000"}}, api.ErrForm},
	{Surd{{"1", "3"}, {"1", "2"}}, api.ErrOrder},
	{Surd{{"1", "3"}, {"1", "3"}}, api.ErrOrder},
	{Surd{{"1", "1"}, {"1", "1"}}, api.ErrOrder},
	{Surd{{"1", "8"}, {"1", "2"}}, api.ErrOrder},
	{Surd{{"1", "5"}, {"1", "4"}}, api.ErrForm},
	{Surd{{"1", "2"}, {"1", "18"}}, api.ErrForm},
	{Surd{{"1", "45"}, {"1", "46"}, {"1", "80"}}, api.ErrForm},
	{Surd{{"1", "2"}, {"1", "20000000000000000000000000000000000000000"}}, api.ErrForm},
	{Surd{{"1", "2"}, {"1", "8"}, {"0", "9"}}, api.ErrForm},
	{Surd{{"1", "2"}, {"0", "8"}, {"1", "x"}}, api.ErrZero},
	{Surd{{"1", "3"}, {"1", "2"}, {"x", "9"}}, api.ErrOrder},
}

// root returns a square root that is known to be right.
func root(t *testing.T, x api.Rational) Surd {
	t.Helper()
	s, e := Of(x)
	if e != api.OK {
		t.Fatalf("Of(%s): %d", x, e)
	}
	return s
}

func sum(t *testing.T, l ...Surd) Surd {
	t.Helper()
	s, e := Sum(l)
	if e != api.OK || Check(s) != api.OK {
		t.Fatalf("Sum(%v) = %v, %d, Check: %d", l, s, e, Check(s))
	}
	return s
}

func scale(t *testing.T, s Surd, k api.Rational) Surd {
	t.Helper()
	s, e := Scale(s, k)
	if e != api.OK {
		t.Fatalf("Scale: %d", e)
	}
	return s
}

// distinct returns surds with radicands that are pairwise not alike: 1 and primes from 2 on.
func distinct(n int) []Surd {
	l := []Surd{{{"1", "1"}}}
	for p := int64(2); len(l) < n; p++ {
		if big.NewInt(p).ProbablyPrime(10) {
			l = append(l, Surd{{"1", integer.Of(int(p))}})
		}
	}
	return l
}

// anySurd makes small surds, often with alike radicands in different ones.
func anySurd(t *testing.T, r *rand.Rand) Surd {
	var l []Surd
	for range r.Intn(5) {
		x, _ := rational.Of(r.Intn(60), 1+r.Intn(12))
		k, _ := rational.Of(r.Intn(41)-20, 1+r.Intn(6))
		l = append(l, scale(t, root(t, x), k))
	}
	return sum(t, l...)
}

// value returns a surd with 2000 bits.
func value(s Surd) *big.Float {
	sum := new(big.Float).SetPrec(2000)
	for _, t := range s {
		f, _ := new(big.Rat).SetString(string(t.Factor))
		n, _ := new(big.Int).SetString(string(t.Radicand), 10)
		term := new(big.Float).SetPrec(2000).SetInt(n)
		term.Sqrt(term)
		sum.Add(sum, term.Mul(term, new(big.Float).SetPrec(2000).SetRat(f)))
	}
	return sum
}

// signOfValue returns the sign of a surd that is 0 if it is almost 0.
func signOfValue(s Surd) int {
	v := value(s)
	if v.Sign() == 0 || v.MantExp(nil) < -1500 {
		return 0
	}
	return v.Sign()
}

func TestCheck(t *testing.T) {
	for _, s := range []Surd{nil, {}, {{"-3/2", "1"}}, {{"1", "2"}}, {{"1", "1"}, {"-1/7", "2"}, {"3", "6"}, {"1", "15"}}, {{api.Rational(most), api.Int(most)}}, sum(t, distinct(40)...)} {
		if e := Check(s); e != api.OK {
			t.Errorf("Check(%v) = %d", s, e)
		}
	}
	for _, c := range wrong {
		if e := Check(c.s); e != c.e {
			t.Errorf("Check(%v) = %d, not %d", c.s, e, c.e)
		}
	}
}

func TestWrongArguments(t *testing.T) {
	right := root(t, "2")
	for _, c := range wrong {
		for name, f := range map[string]func(s Surd) (Surd, api.Errno){
			"Add 1":   func(s Surd) (Surd, api.Errno) { return Add(s, right) },
			"Add 2":   func(s Surd) (Surd, api.Errno) { return Add(right, s) },
			"Sub 1":   func(s Surd) (Surd, api.Errno) { return Sub(s, right) },
			"Sub 2":   func(s Surd) (Surd, api.Errno) { return Sub(right, s) },
			"Scale":   func(s Surd) (Surd, api.Errno) { return Scale(s, "x") },
			"Scale 0": func(s Surd) (Surd, api.Errno) { return Scale(s, "0") },
			"Sum":     func(s Surd) (Surd, api.Errno) { return Sum([]Surd{right, s, {{"", ""}}}) },
		} {
			if s, e := f(c.s); e != c.e || len(s) != 0 {
				t.Errorf("%s of %v: %v, %d", name, c.s, s, e)
			}
		}
		for name, f := range map[string]func(s Surd) (int, api.Errno){
			"Sign":      Sign,
			"Compare 1": func(s Surd) (int, api.Errno) { return Compare(s, nil) },
			"Compare 2": func(s Surd) (int, api.Errno) { return Compare(right, s) },
		} {
			if n, e := f(c.s); e != c.e || n != 0 {
				t.Errorf("%s of %v: %d, %d", name, c.s, n, e)
			}
		}
		_, e1 := Equal(c.s, right)
		is, e2 := Equal(nil, c.s)
		x, isRational, e3 := Rational(c.s)
		low, high, e4 := Bounds(c.s, 0)
		text, e5 := Text(c.s)
		if e1 != c.e || is || e2 != c.e || x != "" || isRational || e3 != c.e || low != "" || high != "" || e4 != c.e || text != "" || e5 != c.e {
			t.Errorf("%v: %d, %t %d, %s %t %d, %s %s %d, %q %d", c.s, e1, is, e2, x, isRational, e3, low, high, e4, text, e5)
		}
	}
}

// The first one of two wrong surds tells the error.
func TestOrderOfErrors(t *testing.T) {
	zero, order := Surd{{"0", "2"}}, Surd{{"1", "3"}, {"1", "2"}}
	_, a := Add(zero, order)
	_, b := Sub(order, zero)
	_, c := Compare(zero, order)
	_, d := Equal(order, zero)
	_, f := Sum([]Surd{nil, zero, order})
	if got, want := []api.Errno{a, b, c, d, f}, []api.Errno{api.ErrZero, api.ErrOrder, api.ErrZero, api.ErrOrder, api.ErrZero}; !slices.Equal(got, want) {
		t.Errorf("errors %v, not %v", got, want)
	}
}

func TestOf(t *testing.T) {
	for _, c := range []struct {
		x    api.Rational
		want Surd
		e    api.Errno
	}{
		{"0", nil, api.OK}, {"1", Surd{{"1", "1"}}, api.OK}, {"8", Surd{{"1", "8"}}, api.OK}, {"1/2", Surd{{"1/2", "2"}}, api.OK}, {"9/4", Surd{{"3/2", "1"}}, api.OK}, {"2/9", Surd{{"1/9", "18"}}, api.OK}, {"4/3", Surd{{"1/3", "12"}}, api.OK}, {"1/9", Surd{{"1/3", "1"}}, api.OK},
		{api.Rational(most), Surd{{"1", api.Int(most)}}, api.OK},
		{"1/1" + api.Rational(strings.Repeat("0", 198)), Surd{{"1/1" + api.Rational(strings.Repeat("0", 99)), "1"}}, api.OK},
		{"3/1" + api.Rational(strings.Repeat("0", 199)), Surd{{"1/1" + api.Rational(strings.Repeat("0", 199)), api.Int("3" + strings.Repeat("0", 199))}}, api.OK},
		{"11/1" + api.Rational(strings.Repeat("0", 199)), nil, api.ErrLimit}, {api.Rational(most + "/7"), nil, api.ErrLimit},
		{"-1", nil, api.ErrRange}, {"-1/4", nil, api.ErrRange}, {"2/4", nil, api.ErrNumber}, {"-2/4", nil, api.ErrNumber}, {"", nil, api.ErrNumber}, {api.Rational("-" + most + "9"), nil, api.ErrNumber},
	} {
		if s, e := Of(c.x); !Same(s, c.want) || e != c.e {
			t.Errorf("Of(%s) = %v, %d", c.x, s, e)
		}
	}
	for _, c := range []struct {
		x    api.Rational
		want Surd
		e    api.Errno
	}{{"0", nil, api.OK}, {"-7/3", Surd{{"-7/3", "1"}}, api.OK}, {api.Rational(most), Surd{{api.Rational(most), "1"}}, api.OK}, {"x", nil, api.ErrNumber}, {"0/1", nil, api.ErrNumber}} {
		if s, e := From(c.x); !Same(s, c.want) || e != c.e {
			t.Errorf("From(%s) = %v, %d", c.x, s, e)
		}
	}
}

func TestSum(t *testing.T) {
	two, eight, minusTwo := Surd{{"1", "2"}}, Surd{{"1", "8"}}, Surd{{"-1", "2"}}
	for _, c := range []struct {
		l    []Surd
		want Surd
	}{
		{nil, nil}, {[]Surd{nil, {}}, nil}, {[]Surd{eight}, eight},
		{[]Surd{two, eight}, Surd{{"3", "2"}}}, {[]Surd{eight, two}, Surd{{"3", "2"}}},
		// The least radicand is that of all terms, also if those with it add up to 0.
		{[]Surd{two, minusTwo, eight}, Surd{{"2", "2"}}}, {[]Surd{eight, two, minusTwo}, Surd{{"2", "2"}}},
		{[]Surd{{{"1", "12"}}, {{"1", "27"}}}, Surd{{"5/2", "12"}}}, {[]Surd{{{"1", "27"}}, {{"1", "12"}}}, Surd{{"5/2", "12"}}},
		{[]Surd{{{"1", "12"}}, {{"-2/3", "27"}}}, nil},
		{[]Surd{{{"1", "1"}, {"2", "6"}}, {{"1/2", "5"}, {"1", "54"}}, {{"-1", "1"}}}, Surd{{"1/2", "5"}, {"5", "6"}}},
		{[]Surd{{{"1/3", "45"}, {"1", "47"}}, {{"1", "20"}}}, Surd{{"3/2", "20"}, {"1", "47"}}},
	} {
		if s := sum(t, c.l...); !Same(s, c.want) {
			t.Errorf("Sum(%v) = %v", c.l, s)
		}
	}
	if s, e := Add(eight, two); !Same(s, Surd{{"3", "2"}}) || e != api.OK {
		t.Errorf("Add = %v, %d", s, e)
	}
	if s, e := Sub(two, eight); !Same(s, Surd{{"-1", "2"}}) || e != api.OK {
		t.Errorf("Sub = %v, %d", s, e)
	}
	if s, e := Sub(eight, eight); len(s) != 0 || e != api.OK {
		t.Errorf("Sub = %v, %d", s, e)
	}
}

func TestScale(t *testing.T) {
	s := Surd{{"-3/2", "1"}, {"2", "8"}}
	for _, c := range []struct {
		k    api.Rational
		want Surd
		e    api.Errno
	}{{"2/3", Surd{{"-1", "1"}, {"4/3", "8"}}, api.OK}, {"-1", Surd{{"3/2", "1"}, {"-2", "8"}}, api.OK}, {"0", nil, api.OK}, {"0/1", nil, api.ErrNumber}, {"", nil, api.ErrNumber}, {api.Rational(most), nil, api.ErrLimit}, {api.Rational(most + "9"), nil, api.ErrNumber}} {
		if m, e := Scale(s, c.k); !Same(m, c.want) || e != c.e {
			t.Errorf("Scale(%v, %s) = %v, %d", s, c.k, m, e)
		}
	}
}

func TestLimits(t *testing.T) {
	forty, forty1 := distinct(40), distinct(41)
	if s, e := Sum(forty1); len(s) != 0 || e != api.ErrLimit {
		t.Errorf("41 terms: %v, %d", s, e)
	}
	// What is too long on the way does no harm.
	last := forty1[40]
	if s := sum(t, append(forty1, Surd{{"-1", last[0].Radicand}})...); !Same(s, sum(t, forty...)) {
		t.Errorf("40 of 41 terms: %v", s)
	}
	a := sum(t, forty...)
	b := sum(t, distinct(80)[40:]...)
	if s, e := Sub(a, b); len(s) != 0 || e != api.ErrLimit {
		t.Errorf("80 terms: %v, %d", s, e)
	}
	if n, e := Compare(a, b); n != -1 || e != api.OK {
		t.Errorf("Compare of 80 terms: %d, %d", n, e)
	}
	if is, e := Equal(a, b); is || e != api.OK {
		t.Errorf("Equal of 80 terms: %t, %d", is, e)
	}
	great := Surd{{api.Rational(most), "2"}}
	if s, e := Add(great, great); len(s) != 0 || e != api.ErrLimit {
		t.Errorf("Add: %v, %d", s, e)
	}
	if s := sum(t, great, great, scale(t, great, "-1")); !Same(s, great) {
		t.Errorf("Sum: %v", s)
	}
	if s, e := Sub(great, scale(t, great, "-1")); len(s) != 0 || e != api.ErrLimit {
		t.Errorf("Sub: %v, %d", s, e)
	}
	if n, e := Compare(great, scale(t, great, "-1")); n != 1 || e != api.OK {
		t.Errorf("Compare: %d, %d", n, e)
	}
}

func TestSame(t *testing.T) {
	a := Surd{{"1", "2"}, {"x", "-"}}
	if !Same(nil, Surd{}) || !Same(a, slices.Clone(a)) || Same(a, a[:1]) || Same(a[:1], Surd{{"1", "3"}}) || Same(a[:1], Surd{{"2", "2"}}) || Same(nil, a) {
		t.Error("Same")
	}
}

func TestEqual(t *testing.T) {
	twice := scale(t, root(t, "2"), "2")
	for _, c := range []struct {
		a, b Surd
		want bool
	}{{twice, root(t, "8"), true}, {root(t, "8"), root(t, "9"), false}, {nil, nil, true}, {nil, twice, false}, {root(t, "4/9"), Surd{{"2/3", "1"}}, true}, {root(t, "1/2"), Surd{{"1/4", "8"}}, true}} {
		if is, e := Equal(c.a, c.b); is != c.want || e != api.OK {
			t.Errorf("Equal(%v, %v) = %t, %d", c.a, c.b, is, e)
		}
		if n, _ := Compare(c.a, c.b); (n == 0) != c.want {
			t.Errorf("Compare(%v, %v) = %d", c.a, c.b, n)
		}
	}
}

func TestSign(t *testing.T) {
	for _, c := range []struct {
		s    Surd
		want int
	}{
		{nil, 0}, {Surd{{"-1/3", "1"}}, -1}, {Surd{{"5", "7"}}, 1}, {Surd{{"-1", "2"}, {"-1", "3"}}, -1},
		{Surd{{"99", "1"}, {"-70", "2"}}, 1}, {Surd{{"-99", "1"}, {"70", "2"}}, -1},
		{Surd{{"1", "2"}, {"1", "3"}, {"-1", "10"}}, -1}, {Surd{{"-1", "2"}, {"-1", "3"}, {"1", "10"}}, 1},
	} {
		if n, e := Sign(c.s); n != c.want || e != api.OK {
			t.Errorf("Sign(%v) = %d, %d", c.s, n, e)
		}
	}
	// The sum of sqrt(x) and sqrt(x + 2) differs from 2 sqrt(x + 1) far behind the point only.
	x := api.Rational("1" + strings.Repeat("0", 60) + "7")
	a := sum(t, root(t, x), root(t, rational.Add(x, "2")))
	b := scale(t, root(t, rational.Add(x, "1")), "2")
	if n, e := Compare(a, b); n != -1 || e != api.OK {
		t.Errorf("Compare of neighbours: %d, %d", n, e)
	}
	tiny := Surd{{"1/" + api.Rational(most), "2"}, {"-1/" + api.Rational(most), "3"}}
	if n, e := Sign(tiny); n != -1 || e != api.OK {
		t.Errorf("Sign(%v) = %d, %d", tiny, n, e)
	}
}

// Powers of sqrt(2) - 1 are as near to 0 as numbers of that length can be.
func TestSignNearZero(t *testing.T) {
	p, q := api.Rational("1"), api.Rational("-1")
	for n := 1; len(p) < api.MaxDigits; n++ {
		// The power is q + p sqrt(2).
		s := Surd{{q, "1"}, {p, "2"}}
		if sign, e := Sign(s); sign != 1 || e != api.OK {
			t.Fatalf("power %d: %d, %d", n, sign, e)
		}
		if sign, e := Sign(scale(t, s, "-1")); sign != -1 || e != api.OK {
			t.Fatalf("power %d: %d, %d", n, sign, e)
		}
		if low, high, e := Bounds(s, 2); low != "0" || high != "1/2" || e != api.OK {
			t.Fatalf("power %d: %s, %s, %d", n, low, high, e)
		}
		p, q = rational.Sub(q, p), rational.Sub(rational.Mul("2", p), q)
	}
}

func TestRational(t *testing.T) {
	for _, c := range []struct {
		s    Surd
		want api.Rational
		is   bool
	}{{nil, "0", true}, {Surd{{"-3/2", "1"}}, "-3/2", true}, {Surd{{"1", "2"}}, "", false}, {Surd{{"1", "1"}, {"1", "2"}}, "", false}, {Surd{{"1", "2"}, {"1", "3"}}, "", false}} {
		if x, is, e := Rational(c.s); x != c.want || is != c.is || e != api.OK {
			t.Errorf("Rational(%v) = %s, %t, %d", c.s, x, is, e)
		}
	}
}

func TestBounds(t *testing.T) {
	near := Surd{{"99", "1"}, {"-70", "2"}}
	great := api.Rational("1" + strings.Repeat("0", api.MaxDigits-1))
	for _, c := range []struct {
		s         Surd
		den       int
		low, high api.Rational
		e         api.Errno
	}{
		{root(t, "2"), 10, "7/5", "3/2", api.OK}, {near, 1000, "1/200", "3/500", api.OK}, {nil, 7, "0", "0", api.OK},
		{Surd{{"3/2", "1"}}, 4, "3/2", "3/2", api.OK}, {Surd{{"3/2", "1"}}, 3, "4/3", "5/3", api.OK}, {Surd{{"-3/2", "1"}}, 3, "-5/3", "-4/3", api.OK}, {Surd{{"-3/2", "1"}}, 2, "-3/2", "-3/2", api.OK},
		{Surd{{"-1", "2"}}, 10, "-3/2", "-7/5", api.OK}, {Surd{{"1", "2"}}, MaxDen, "1414213/1000000", "707107/500000", api.OK},
		{Surd{{great, "1"}}, 1, great, great, api.OK},
		{Surd{{great, "101"}}, 1, "", "", api.ErrLimit}, {Surd{{rational.Neg(great), "101"}}, 1, "", "", api.ErrLimit},
		{Surd{{api.Rational(most), "1"}, {"1/2", "2"}}, 1, "", "", api.ErrLimit},
		{Surd{{"1/7" + great[1:], "1"}}, MaxDen, "0", "1/1000000", api.OK},
		{near, 0, "", "", api.ErrRange}, {near, -1, "", "", api.ErrRange}, {near, MaxDen + 1, "", "", api.ErrRange}, {nil, math.MinInt, "", "", api.ErrRange},
	} {
		if low, high, e := Bounds(c.s, c.den); low != c.low || high != c.high || e != c.e {
			t.Errorf("Bounds(%v, %d) = %s, %s, %d", c.s, c.den, low, high, e)
		}
	}
}

func TestText(t *testing.T) {
	for _, c := range []struct {
		s    Surd
		want string
	}{
		{nil, "0"}, {Surd{{"1", "1"}}, "1"}, {Surd{{"-1", "1"}}, "-1"}, {Surd{{"1", "5"}}, "sqrt(5)"}, {Surd{{"-1", "5"}}, "-sqrt(5)"}, {Surd{{"-2/3", "5"}}, "-2/3 sqrt(5)"},
		{Surd{{"1/2", "1"}, {"-1", "5"}}, "1/2 - sqrt(5)"}, {Surd{{"-1/2", "1"}, {"1", "5"}, {"-7", "6"}, {"2", "7"}}, "-1/2 + sqrt(5) - 7 sqrt(6) + 2 sqrt(7)"},
	} {
		if s, e := Text(c.s); s != c.want || e != api.OK {
			t.Errorf("Text(%v) = %q, %d", c.s, s, e)
		}
	}
}

func TestLaws(t *testing.T) {
	r := rand.New(rand.NewSource(4))
	for range 600 {
		a, b, c := anySurd(t, r), anySurd(t, r), anySurd(t, r)
		order, e := Compare(a, b)
		if difference, _ := Sub(a, b); e != api.OK || order != signOfValue(difference) {
			t.Fatalf("Compare(%v, %v) = %d, %d", a, b, order, e)
		}
		if is, _ := Equal(a, b); is != (order == 0) {
			t.Errorf("Equal(%v, %v) = %t", a, b, is)
		}
		if n, _ := Sign(a); n != signOfValue(a) {
			t.Errorf("Sign(%v) = %d", a, n)
		}
		if moved, _ := Compare(sum(t, a, c), sum(t, b, c)); moved != order {
			t.Errorf("Compare(%v, %v) with %v added", a, b, c)
		}
		if larger, _ := Compare(scale(t, a, "7/3"), scale(t, b, "7/3")); larger != order {
			t.Errorf("Compare(%v, %v) of multiples", a, b)
		}
		if !Same(sum(t, a, b, c), sum(t, c, a, b)) {
			t.Errorf("order of %v, %v, %v", a, b, c)
		}
		x, y := scale(t, sum(t, a, b), "-3/2"), sum(t, scale(t, a, "-3/2"), scale(t, b, "-3/2"))
		if is, _ := Equal(x, y); !is {
			t.Errorf("multiple of %v and %v", a, b)
		}
	}
}

func TestLawsOfBounds(t *testing.T) {
	r := rand.New(rand.NewSource(5))
	for range 400 {
		s, den := anySurd(t, r), 1+r.Intn(50)
		low, high, e := Bounds(s, den)
		a, _ := From(low)
		b, _ := From(high)
		below, _ := Compare(a, s)
		above, _ := Compare(b, s)
		step, _ := rational.Of(1, den)
		exact := low == high
		if e != api.OK || exact && (below != 0 || above != 0) || !exact && (below != -1 || above != 1 || rational.Sub(high, low) != step) {
			t.Errorf("Bounds(%v, %d) = %s, %s, %d", s, den, low, high, e)
		}
		x, is, _ := Rational(s)
		if multiple := is && !strings.Contains(string(rational.Mul(x, rational.Whole(den))), "/"); multiple != exact {
			t.Errorf("Bounds(%v, %d) = %s, %s", s, den, low, high)
		}
	}
}

func TestLawsOfRoots(t *testing.T) {
	r := rand.New(rand.NewSource(6))
	for range 300 {
		x, _ := rational.Of(r.Intn(400), 1+r.Intn(30))
		y, _ := rational.Of(r.Intn(400), 1+r.Intn(30))
		if n, _ := Compare(root(t, x), root(t, y)); n != rational.Compare(x, y) {
			t.Errorf("roots of %s and %s: %d", x, y, n)
		}
		if is, _ := Equal(root(t, rational.Mul("4", x)), scale(t, root(t, x), "2")); !is {
			t.Errorf("root of four times %s", x)
		}
		if s, _ := From(x); !Same(root(t, rational.Mul(x, x)), s) {
			t.Errorf("root of the square of %s", x)
		}
	}
}

// Arguments stay as they are, also where they have room behind them, and results are new.
func TestMemory(t *testing.T) {
	a := append(make(Surd, 0, 9), Term{"1", "2"}, Term{"-1", "3"})
	b := append(make(Surd, 0, 9), Term{"1", "8"})
	copyA, copyB := slices.Clone(a), slices.Clone(b)
	sums := []Surd{sum(t, a), sum(t, a, nil), sum(t, a, b), scale(t, a, "1")}
	Compare(a, b)
	Bounds(a, 5)
	for _, s := range sums {
		for i := range s {
			s[i] = Term{"7", "7"}
		}
	}
	if !Same(a, copyA) || !Same(b, copyB) || a[:3][2] != (Term{}) {
		t.Errorf("%v, %v", a, b)
	}
}
