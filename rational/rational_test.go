package rational

import (
	"math"
	"math/big"
	"math/rand"
	"strings"
	"testing"

	"klippe/api"
)

var (
	most = strings.Repeat("9", api.MaxDigits)

	// garbage is no number: the functions must come back all the same.
	garbage = []api.Rational{"", "-", "/", "1/", "/2", "1/1", "2/4", "0/3", "1/0", "0/0", "1/-2", "-1/-2", "+1", "-0", "01", "1/02", "a", "a/b", "1/2/3", "1.5", " 1", "1/2 ", "-0/5", "--1", "6/3", "\xff/\x00"}
)

func text(x *big.Rat) string {
	if x.IsInt() {
		return x.Num().String()
	}
	return x.String()
}

func toBig(t *testing.T, x api.Rational) *big.Rat {
	t.Helper()
	n, ok := new(big.Rat).SetString(string(x))
	if !ok || text(n) != string(x) {
		t.Fatalf("%q is not canonical", x)
	}
	return n
}

func anyBig(r *rand.Rand, most int) *big.Int {
	n := new(big.Int).Rand(r, new(big.Int).Exp(big.NewInt(10), big.NewInt(int64(1+r.Intn(most))), nil))
	if r.Intn(2) == 0 {
		n.Neg(n)
	}
	return n
}

// anyNumber makes numbers whose parts have up to most digits, and often common factors with those of other ones.
func anyNumber(r *rand.Rand, most int) api.Rational {
	x := new(big.Rat).SetInt(anyBig(r, most))
	if r.Intn(4) > 0 {
		den := anyBig(r, most)
		if den.Sign() == 0 || r.Intn(2) == 0 {
			den.Exp(big.NewInt(6), big.NewInt(int64(1+r.Intn(most))), nil)
		}
		x.SetFrac(x.Num(), den)
	}
	return api.Rational(text(x))
}

// pairs hands pairs of numbers of many lengths to f.
func pairs(f func(a, b api.Rational)) {
	r := rand.New(rand.NewSource(1))
	edges := []api.Rational{"0", "1", "-1", "1/2", "-1/2", "5/6", "999999999999999999", "-999999999999999999", "1/999999999999999999", "-999999999999999998/999999999999999999", "1000000000000000000", "9223372036854775807", "-9223372036854775808", "1/9223372036854775807", "2147483648", "4611686018427387904", "1/2147483648", "3037000500/3037000499"}
	for _, a := range edges {
		for _, b := range edges {
			f(a, b)
		}
	}
	for _, most := range []int{1, 3, 9, 10, 18, 19, 25, 60, 210} {
		for range 250 {
			a, b := anyNumber(r, most), anyNumber(r, most)
			f(a, b)
			f(a, a)
			f(a, Neg(a))
		}
	}
}

func TestCheck(t *testing.T) {
	for _, x := range []api.Rational{"0", "1", "-1", "1/2", "-7/3", api.Rational(most), api.Rational("-" + most), api.Rational("1/" + most), api.Rational("-" + most + "/1" + strings.Repeat("0", api.MaxDigits-1))} {
		if e := Check(x); e != api.OK {
			t.Errorf("Check(%s) = %d", x, e)
		}
	}
	for _, x := range append(garbage, api.Rational(most+"9"), api.Rational("1/"+most+"9"), api.Rational(most+"/3"), "٣", "1/٣") {
		if e := Check(x); e != api.ErrNumber {
			t.Errorf("Check(%s) = %d", x, e)
		}
	}
}

func TestNew(t *testing.T) {
	long := api.Int(strings.Repeat("6", 300))
	for _, c := range []struct {
		num, den api.Int
		want     api.Rational
		e        api.Errno
	}{{"6", "-4", "-3/2", api.OK}, {"0", "-7", "0", api.OK}, {"-21", "7", "-3", api.OK}, {"-2", "-6", "1/3", api.OK}, {"5", "0", "", api.ErrZero}, {"0", "0", "", api.ErrZero}, {long, "6", api.Rational(strings.Repeat("1", 300)), api.OK}, {"6", "-" + long, api.Rational("-1/" + strings.Repeat("1", 300)), api.OK}} {
		if x, e := New(c.num, c.den); x != c.want || e != c.e {
			t.Errorf("New(%s, %s) = %s, %d", c.num, c.den, x, e)
		}
	}
	for _, c := range []struct {
		num, den int
		want     api.Rational
		e        api.Errno
	}{{6, -4, "-3/2", api.OK}, {0, -7, "0", api.OK}, {5, 0, "", api.ErrZero}, {math.MinInt, -1, "9223372036854775808", api.OK}, {math.MinInt, math.MinInt, "1", api.OK}, {1, math.MinInt, "-1/9223372036854775808", api.OK}, {math.MaxInt, 7, "1317624576693539401", api.OK}} {
		if x, e := Of(c.num, c.den); x != c.want || e != c.e {
			t.Errorf("Of(%d, %d) = %s, %d", c.num, c.den, x, e)
		}
	}
	if Whole(-5) != "-5" || Whole(0) != "0" || Whole(math.MinInt) != "-9223372036854775808" {
		t.Error("Whole")
	}
}

func TestPartsAndSmall(t *testing.T) {
	nines := strings.Repeat("9", 18)
	for _, c := range []struct {
		x        api.Rational
		n, d     api.Int
		num, den int
		small    bool
	}{
		{"-7/9", "-7", "9", -7, 9, true}, {"0", "0", "1", 0, 1, true}, {"12", "12", "1", 12, 1, true},
		{api.Rational("-" + nines), api.Int("-" + nines), "1", -999999999999999999, 1, true},
		{api.Rational("1/" + nines), "1", api.Int(nines), 1, 999999999999999999, true},
		{"1000000000000000000", "1000000000000000000", "1", 0, 0, false}, {"-1000000000000000000/3", "-1000000000000000000", "3", 0, 0, false},
		{"1/1000000000000000000", "1", "1000000000000000000", 0, 0, false}, {api.Rational(most), api.Int(most), "1", 0, 0, false},
	} {
		if n, d := Parts(c.x); n != c.n || d != c.d {
			t.Errorf("Parts(%s) = %s, %s", c.x, n, d)
		}
		if n, d, is := Small(c.x); n != c.num || d != c.den || is != c.small {
			t.Errorf("Small(%s) = %d, %d, %t", c.x, n, d, is)
		}
	}
}

func TestParse(t *testing.T) {
	for _, c := range []struct {
		s    string
		want api.Rational
		e    api.Errno
	}{
		{"2.50", "5/2", api.OK}, {"+06/4", "3/2", api.OK}, {"-0", "0", api.OK}, {"+0.00", "0", api.OK}, {"-0/7", "0", api.OK}, {"-0.125", "-1/8", api.OK}, {"007", "7", api.OK}, {"10/5", "2", api.OK}, {"-12/018", "-2/3", api.OK},
		{most, api.Rational(most), api.OK}, {"0." + strings.Repeat("0", 197) + "2", api.Rational("1/5" + strings.Repeat("0", 197)), api.OK},
		{"", "", api.ErrEmpty},
		{"-", "", api.ErrSyntax}, {"+", "", api.ErrSyntax}, {"1/", "", api.ErrSyntax}, {"/2", "", api.ErrSyntax}, {".5", "", api.ErrSyntax}, {"5.", "", api.ErrSyntax}, {".", "", api.ErrSyntax}, {"/", "", api.ErrSyntax}, {"1e2", "", api.ErrSyntax}, {"1/-2", "", api.ErrSyntax}, {"1/+2", "", api.ErrSyntax}, {"+-1", "", api.ErrSyntax}, {"1.5/2", "", api.ErrSyntax}, {"1/2.5", "", api.ErrSyntax}, {"1/2/3", "", api.ErrSyntax}, {"1.2.3", "", api.ErrSyntax}, {" 1", "", api.ErrSyntax}, {"1 / 2", "", api.ErrSyntax}, {"1.-5", "", api.ErrSyntax}, {"1.+5", "", api.ErrSyntax}, {"٣", "", api.ErrSyntax}, {"1_0", "", api.ErrSyntax}, {"x/0", "", api.ErrSyntax},
		{most + "x", "", api.ErrSyntax}, {most + "9", "", api.ErrLong}, {"-" + most, "", api.ErrLong}, {strings.Repeat("0", 201), "", api.ErrLong}, {"1/" + strings.Repeat("0", 200), "", api.ErrLong},
		{"5/00", "", api.ErrZero}, {"0/0", "", api.ErrZero}, {"1/" + strings.Repeat("0", 198), "", api.ErrZero},
	} {
		if x, e := Parse(c.s); x != c.want || e != c.e {
			t.Errorf("Parse(%q) = %s, %d", c.s, x, e)
		}
	}
	pairs(func(a, _ api.Rational) {
		if x, e := Parse(string(a)); len(a) <= api.MaxDigits && (x != a || e != api.OK) {
			t.Errorf("Parse(%s) = %s, %d", a, x, e)
		}
	})
}

func TestDecimal(t *testing.T) {
	for _, c := range []struct {
		x      api.Rational
		places int
		want   string
		e      api.Errno
	}{
		{"2/3", 3, "0.667", api.OK}, {"-1/8", 2, "-0.12", api.OK}, {"1/8", 2, "0.13", api.OK}, {"-1/1000", 1, "0.0", api.OK}, {"-1/20", 1, "0.0", api.OK}, {"-3/50", 1, "-0.1", api.OK}, {"7/2", 0, "4", api.OK}, {"-7/2", 0, "-3", api.OK}, {"-1/3", 0, "0", api.OK}, {"0", 12, "0.000000000000", api.OK}, {"-12", 2, "-12.00", api.OK}, {"999/1000", 2, "1.00", api.OK}, {"1/3", 12, "0.333333333333", api.OK},
		{api.Rational(most), 1, most + ".0", api.OK},
		{"1", -1, "", api.ErrRange}, {"1", 13, "", api.ErrRange}, {"1", math.MinInt, "", api.ErrRange},
	} {
		if s, e := Decimal(c.x, c.places); s != c.want || e != c.e {
			t.Errorf("Decimal(%s, %d) = %s, %d", c.x, c.places, s, e)
		}
	}
	pairs(func(a, _ api.Rational) {
		for places := range MaxPlaces + 1 {
			rounded, _ := Round(a, int(math.Pow10(min(places, 6))))
			s, _ := Decimal(rounded, places)
			if x, e := Parse(s); places <= 6 && len(s) <= api.MaxDigits && (x != rounded || e != api.OK) {
				t.Errorf("Decimal(%s, %d) = %s", rounded, places, s)
			}
		}
	})
}

func TestArithmetic(t *testing.T) {
	pairs(func(a, b api.Rational) {
		x, y := toBig(t, a), toBig(t, b)
		want := func(name string, got api.Rational, n *big.Rat) {
			if string(got) != text(n) {
				t.Fatalf("%s of %s and %s is %s, not %s", name, a, b, got, text(n))
			}
		}
		sum := new(big.Rat).Add(x, y)
		want("Add", Add(a, b), sum)
		want("Sub", Sub(a, b), new(big.Rat).Sub(x, y))
		want("Mul", Mul(a, b), new(big.Rat).Mul(x, y))
		want("Neg", Neg(a), new(big.Rat).Neg(x))
		want("Abs", Abs(a), new(big.Rat).Abs(x))
		want("Middle", Middle(a, b), new(big.Rat).Mul(sum, big.NewRat(1, 2)))
		want("Sum", Sum(a, b, a, "-1/2"), new(big.Rat).Add(sum, new(big.Rat).Sub(x, big.NewRat(1, 2))))
		if Compare(a, b) != x.Cmp(y) || Sign(a) != x.Sign() {
			t.Fatalf("Compare(%s, %s) = %d, Sign = %d", a, b, Compare(a, b), Sign(a))
		}
		least, greatest := a, b
		if x.Cmp(y) > 0 {
			least, greatest = b, a
		}
		if Min(a, b) != least || Max(a, b) != greatest {
			t.Fatalf("Min and Max of %s and %s", a, b)
		}
		if quotient, e := Div(a, b); b == "0" {
			if quotient != "" || e != api.ErrZero {
				t.Fatalf("Div(%s, 0) = %s, %d", a, quotient, e)
			}
		} else if string(quotient) != text(new(big.Rat).Quo(x, y)) || e != api.OK {
			t.Fatalf("Div(%s, %s) = %s, %d", a, b, quotient, e)
		}
	})
	if Sum() != "0" || Sum("-3/4") != "-3/4" {
		t.Error("Sum of none or one")
	}
}

func TestFloorAndRound(t *testing.T) {
	for x, want := range map[api.Rational]api.Int{"-5/2": "-3", "5/2": "2", "4": "4", "-4": "-4", "0": "0", "-1/1000000": "-1", api.Rational(most + "/2"): api.Int("4" + most[1:])} {
		if n := Floor(x); n != want {
			t.Errorf("Floor(%s) = %s", x, n)
		}
	}
	for _, c := range []struct {
		x    api.Rational
		grid int
		want api.Rational
		e    api.Errno
	}{
		{"7/10", 12, "2/3", api.OK}, {"1/24", 12, "1/12", api.OK}, {"-1/24", 12, "0", api.OK}, {"-1/8", 12, "-1/12", api.OK}, {"5/2", 1, "3", api.OK}, {"-5/2", 1, "-2", api.OK}, {"1/3", MaxGrid, "333333/1000000", api.OK}, {"-7", 5, "-7", api.OK},
		{"1", 0, "", api.ErrRange}, {"1", -1, "", api.ErrRange}, {"1", MaxGrid + 1, "", api.ErrRange}, {"1", math.MaxInt, "", api.ErrRange},
	} {
		if x, e := Round(c.x, c.grid); x != c.want || e != c.e {
			t.Errorf("Round(%s, %d) = %s, %d", c.x, c.grid, x, e)
		}
	}
	pairs(func(a, _ api.Rational) {
		floor := api.Rational(Floor(a))
		if Compare(floor, a) > 0 || Compare(Add(floor, "1"), a) <= 0 {
			t.Errorf("Floor(%s) = %s", a, floor)
		}
		rounded, _ := Round(a, 12)
		// From the number to the rounded one it is more than -1 / 24, and at most 1 / 24.
		if d := Sub(rounded, a); Compare(d, "-1/24") <= 0 || Compare(d, "1/24") > 0 || Floor(Mul(rounded, "12")) != api.Int(Mul(rounded, "12")) {
			t.Errorf("Round(%s, 12) = %s", a, rounded)
		}
	})
}

func TestRoot(t *testing.T) {
	for x, want := range map[api.Rational]api.Rational{"9/4": "3/2", "0": "0", "1": "1", "1/49": "1/7", "100": "10"} {
		if root, is := Root(x); root != want || !is {
			t.Errorf("Root(%s) = %s, %t", x, root, is)
		}
	}
	for _, x := range []api.Rational{"2", "-4", "1/3", "4/3", "3/4", "-1/4", "-1", "8/9"} {
		if root, is := Root(x); root != "" || is {
			t.Errorf("Root(%s) = %s, %t", x, root, is)
		}
	}
	pairs(func(a, _ api.Rational) {
		square := Mul(a, a)
		if root, is := Root(square); root != Abs(a) || !is {
			t.Errorf("Root(%s) = %s, %t", square, root, is)
		}
		if _, is := Root(Neg(square)); is != (a == "0") {
			t.Errorf("Root(-%s): %t", square, is)
		}
	})
}

func TestLaws(t *testing.T) {
	r := rand.New(rand.NewSource(3))
	for range 1500 {
		n := []int{2, 10, 40}[r.Intn(3)]
		a, b, c := anyNumber(r, n), anyNumber(r, n), anyNumber(r, n)
		if Sum(a, b, c) != Sum(c, a, b) || Mul(a, Mul(b, c)) != Mul(Mul(c, a), b) {
			t.Errorf("order of %s, %s and %s", a, b, c)
		}
		if Mul(a, Add(b, c)) != Add(Mul(a, b), Mul(a, c)) {
			t.Errorf("%s distributed over %s and %s", a, b, c)
		}
		order := Compare(a, b)
		if order != Compare(Add(a, c), Add(b, c)) || c != "0" && order != Compare(Mul(a, Abs(c)), Mul(b, Abs(c))) {
			t.Errorf("Compare of %s and %s, with %s", a, b, c)
		}
		middle := Middle(a, b)
		if order != 0 && (Compare(Min(a, b), middle) >= 0 || Compare(middle, Max(a, b)) >= 0) {
			t.Errorf("Middle(%s, %s) = %s", a, b, middle)
		}
	}
}

func TestGarbage(t *testing.T) {
	numbers := append(garbage, "0", "1/2", "-7", api.Rational(most), api.Rational(most+"/7"))
	for _, a := range numbers {
		Parts(a)
		Small(a)
		Parse(string(a))
		Sign(a)
		Neg(a)
		Abs(a)
		Floor(a)
		Root(a)
		Sum(a)
		for _, n := range []int{-1, 0, 1, 12, 1000000} {
			Decimal(a, n)
			Round(a, n)
		}
		for _, b := range numbers {
			New(api.Int(a), api.Int(b))
			Compare(a, b)
			Min(a, b)
			Max(a, b)
			Add(a, b)
			Sub(a, b)
			Mul(a, b)
			Div(a, b)
			Middle(a, b)
			Sum(a, b)
		}
	}
}
