package integer

import (
	"math"
	"math/big"
	"math/rand"
	"strings"
	"testing"

	"klippe/api"
)

// garbage is no integer: the functions must come back all the same.
var garbage = []api.Int{"", "-", "+", "--", "-0", "00", "007", "-01", "+5", "1.5", "1/2", "a", "12a", " 1", "1 ", "\x00", "\xff\xfe", "٣", "1_000", "0x10",
	api.Int(strings.Repeat("a", 300)), api.Int(strings.Repeat("-", 300)), api.Int(strings.Repeat("0", 300)), api.Int(strings.Repeat("9", 40) + ":")}

func toBig(t *testing.T, a api.Int) *big.Int {
	t.Helper()
	n, ok := new(big.Int).SetString(string(a), 10)
	if !ok || n.String() != string(a) {
		t.Fatalf("%q is not canonical", a)
	}
	return n
}

// anyInt makes integers of up to most digits; rows of 0 and 9 are frequent, as carries depend on them.
func anyInt(r *rand.Rand, most int) api.Int {
	digits := make([]byte, 1+r.Intn(most))
	row, left := byte('0'), 0
	for i := range digits {
		if left == 0 && r.Intn(12) == 0 {
			row, left = "09"[r.Intn(2)], r.Intn(25)
		}
		digits[i] = byte('0' + r.Intn(10))
		if left > 0 {
			digits[i] = row
			left--
		}
	}
	n, _ := new(big.Int).SetString(string(digits), 10)
	if r.Intn(2) == 0 {
		n.Neg(n)
	}
	return api.Int(n.String())
}

// pairs hands pairs of integers of many lengths to f.
func pairs(f func(a, b api.Int)) {
	r := rand.New(rand.NewSource(1))
	edges := []api.Int{"0", "1", "-1", "9", "10", "999999999", "1000000000", "-1000000000", "999999999999999999", "-999999999999999999", "1000000000000000000", "9223372036854775807", "-9223372036854775808", "999999999999999999999999999", "1000000000000000000000000000"}
	for _, a := range edges {
		for _, b := range edges {
			f(a, b)
		}
	}
	for _, most := range []int{3, 17, 19, 20, 40, 100, 450} {
		for range 400 {
			a, b := anyInt(r, most), anyInt(r, 1+r.Intn(most))
			f(a, b)
			f(b, a)
			f(a, a)
		}
	}
}

func TestCheck(t *testing.T) {
	long := strings.Repeat("9", api.MaxDigits)
	for _, a := range []api.Int{"0", "1", "-1", "10", "-907", api.Int(long), api.Int("-" + long)} {
		if e := Check(a); e != api.OK {
			t.Errorf("Check(%s) = %d", a, e)
		}
	}
	for _, a := range append(garbage, api.Int(long+"0"), api.Int("-"+long+"0")) {
		if e := Check(a); e != api.ErrNumber {
			t.Errorf("Check(%s) = %d", a, e)
		}
	}
}

func TestOfAndSmall(t *testing.T) {
	for n, want := range map[int]api.Int{0: "0", 7: "7", -30: "-30", math.MaxInt: "9223372036854775807", math.MinInt: "-9223372036854775808", 999999999999999999: "999999999999999999", -1000000000000000000: "-1000000000000000000"} {
		if a := Of(n); a != want {
			t.Errorf("Of(%d) = %s", n, a)
		}
		if m, is := Small(want); m != n || !is {
			t.Errorf("Small(%s) = %d, %t", want, m, is)
		}
	}
	for _, a := range []api.Int{"9223372036854775808", "-9223372036854775809", "10000000000000000000", "-10000000000000000000", api.Int(strings.Repeat("1", 500))} {
		if m, is := Small(a); m != 0 || is {
			t.Errorf("Small(%s) = %d, %t", a, m, is)
		}
	}
}

func TestParse(t *testing.T) {
	most := strings.Repeat("7", api.MaxDigits)
	for _, c := range []struct {
		text string
		want api.Int
		e    api.Errno
	}{
		{"+007", "7", api.OK}, {"-0", "0", api.OK}, {"+0", "0", api.OK}, {"000", "0", api.OK}, {"-00012", "-12", api.OK}, {"12", "12", api.OK},
		{most, api.Int(most), api.OK}, {"-000" + most, api.Int("-" + most), api.OK}, {most + "7", "", api.ErrLimit}, {"-" + most + "7", "", api.ErrLimit},
		{"", "", api.ErrEmpty}, {"-", "", api.ErrSyntax}, {"+", "", api.ErrSyntax}, {"--1", "", api.ErrSyntax}, {"+-1", "", api.ErrSyntax}, {"1.5", "", api.ErrSyntax}, {"1-", "", api.ErrSyntax}, {" 1", "", api.ErrSyntax}, {"1 ", "", api.ErrSyntax}, {"٣", "", api.ErrSyntax}, {"1:", "", api.ErrSyntax}, {"1/", "", api.ErrSyntax},
		{most + "7x", "", api.ErrSyntax},
	} {
		if a, e := Parse(c.text); a != c.want || e != c.e {
			t.Errorf("Parse(%q) = %s, %d", c.text, a, e)
		}
	}
	pairs(func(a, _ api.Int) {
		if len(a) > api.MaxDigits {
			return
		}
		if b, e := Parse(string(a)); a != b || e != api.OK {
			t.Errorf("Parse(%s) = %s, %d", a, b, e)
		}
	})
}

func TestArithmetic(t *testing.T) {
	pairs(func(a, b api.Int) {
		x, y := toBig(t, a), toBig(t, b)
		want := func(name string, got api.Int, n *big.Int) {
			if string(got) != n.String() {
				t.Fatalf("%s of %s and %s is %s, not %s", name, a, b, got, n)
			}
		}
		want("Add", Add(a, b), new(big.Int).Add(x, y))
		want("Sub", Sub(a, b), new(big.Int).Sub(x, y))
		want("Mul", Mul(a, b), new(big.Int).Mul(x, y))
		want("Neg", Neg(a), new(big.Int).Neg(x))
		want("Abs", Abs(a), new(big.Int).Abs(x))
		want("Gcd", Gcd(a, b), new(big.Int).GCD(nil, nil, new(big.Int).Abs(x), new(big.Int).Abs(y)))
		if Compare(a, b) != x.Cmp(y) || Sign(a) != x.Sign() {
			t.Fatalf("Compare(%s, %s) = %d, Sign = %d", a, b, Compare(a, b), Sign(a))
		}
	})
}

func TestGcdOfMultiples(t *testing.T) {
	pairs(func(a, b api.Int) {
		for _, c := range []api.Int{"1", "-12", "999999999999999999999", Of(1 << 40)} {
			ac, bc := Mul(a, c), Mul(b, c)
			if got, want := Gcd(ac, bc), Mul(Gcd(a, b), Abs(c)); got != want {
				t.Fatalf("Gcd(%s, %s) = %s, not %s", ac, bc, got, want)
			}
		}
	})
}

// Neighbours in the sequence of Fibonacci need the most steps.
func TestGcdOfFibonacci(t *testing.T) {
	a, b := api.Int("0"), api.Int("1")
	for range 2000 {
		a, b = b, Add(a, b)
		if g := Gcd(a, b); g != "1" {
			t.Fatalf("Gcd(%s, %s) = %s", a, b, g)
		}
	}
}

func TestDivMod(t *testing.T) {
	for _, c := range []struct{ a, b, q, r api.Int }{{"-7", "2", "-4", "1"}, {"7", "-2", "-3", "1"}, {"-7", "-2", "4", "1"}, {"7", "2", "3", "1"}, {"-6", "3", "-2", "0"}, {"0", "-5", "0", "0"}, {"-9223372036854775808", "-1", "9223372036854775808", "0"}, {"-1", "100000000000000000000", "-1", "99999999999999999999"}, {"-1", "-100000000000000000000", "1", "99999999999999999999"}} {
		if q, r, e := DivMod(c.a, c.b); q != c.q || r != c.r || e != api.OK {
			t.Errorf("DivMod(%s, %s) = %s, %s, %d", c.a, c.b, q, r, e)
		}
	}
	pairs(func(a, b api.Int) {
		q, r, e := DivMod(a, b)
		if b == "0" {
			if q != "" || r != "" || e != api.ErrZero {
				t.Errorf("DivMod(%s, 0) = %s, %s, %d", a, q, r, e)
			}
			return
		}
		wantQ, wantR := new(big.Int).DivMod(toBig(t, a), toBig(t, b), new(big.Int))
		if e != api.OK || string(q) != wantQ.String() || string(r) != wantR.String() {
			t.Fatalf("DivMod(%s, %s) = %s, %s, %d", a, b, q, r, e)
		}
		if Add(Mul(q, b), r) != a {
			t.Fatalf("DivMod(%s, %s) does not lead back", a, b)
		}
	})
}

// Quotients next to a multiple lead to the rare corrections of a digit.
func TestDivModNearMultiples(t *testing.T) {
	pairs(func(a, b api.Int) {
		product := Mul(a, b)
		for _, near := range []api.Int{"-1", "0", "1"} {
			x := Add(product, near)
			if b == "0" {
				return
			}
			wantQ, wantR := new(big.Int).DivMod(toBig(t, x), toBig(t, b), new(big.Int))
			if q, r, _ := DivMod(x, b); string(q) != wantQ.String() || string(r) != wantR.String() {
				t.Fatalf("DivMod(%s, %s) = %s, %s", x, b, q, r)
			}
		}
	})
}

func TestPower(t *testing.T) {
	for _, c := range []struct {
		a    api.Int
		n    int
		want api.Int
		e    api.Errno
	}{
		{"0", 0, "1", api.OK}, {"0", 5, "0", api.OK}, {"-3", 3, "-27", api.OK}, {"-3", 4, "81", api.OK}, {"7", 1, "7", api.OK}, {"1", 5000, "1", api.OK}, {"-1", 4999, "-1", api.OK},
		{api.Int("-" + strings.Repeat("9", 9000)), 0, "1", api.OK},
		{"2", -1, "", api.ErrRange}, {"2", math.MinInt, "", api.ErrRange}, {"0", -1, "", api.ErrRange}, {api.Int(strings.Repeat("9", 9000)), -1, "", api.ErrRange},
		{"1", 5001, "", api.ErrLimit}, {"0", 5001, "", api.ErrLimit}, {"10", 2501, "", api.ErrLimit}, {"-10", 2501, "", api.ErrLimit}, {"1", math.MaxInt, "", api.ErrLimit}, {"10", math.MaxInt, "", api.ErrLimit}, {api.Int(strings.Repeat("9", 5001)), 1, "", api.ErrLimit},
	} {
		if a, e := Power(c.a, c.n); a != c.want || e != c.e {
			t.Errorf("Power(%s, %d) = %s, %d", c.a, c.n, a, e)
		}
	}
	for _, c := range []struct {
		a api.Int
		n int
	}{{"9", 5000}, {"-10", 2500}, {"-12345678901", 454}, {"99999999999999999999", 249}} {
		want := new(big.Int).Exp(toBig(t, c.a), big.NewInt(int64(c.n)), nil)
		if a, e := Power(c.a, c.n); string(a) != want.String() || e != api.OK {
			t.Errorf("Power(%s, %d) is wrong", c.a, c.n)
		}
	}
	for n := range 40 {
		for m := range 40 {
			a, _ := Power("-137", n)
			b, _ := Power("-137", m)
			if c, _ := Power("-137", n+m); c != Mul(a, b) {
				t.Errorf("powers %d and %d", n, m)
			}
		}
	}
}

func TestRoot(t *testing.T) {
	if r, e := Root("-1"); r != "" || e != api.ErrRange {
		t.Errorf("Root(-1) = %s, %d", r, e)
	}
	if r, e := Root("-100000000000000000000"); r != "" || e != api.ErrRange {
		t.Errorf("Root = %s, %d", r, e)
	}
	check := func(a api.Int) {
		if r, e := Root(a); string(r) != new(big.Int).Sqrt(toBig(t, a)).String() || e != api.OK {
			t.Fatalf("Root(%s) = %s, %d", a, r, e)
		}
	}
	for n := range 2000 {
		check(Of(n))
	}
	pairs(func(a, _ api.Int) {
		a = Abs(a)
		check(a)
		square := Mul(a, a)
		check(square)
		check(Add(square, "1"))
		check(Add(square, Mul("2", a)))
		if square != "0" {
			check(Sub(square, "1"))
		}
	})
}

func TestLaws(t *testing.T) {
	r := rand.New(rand.NewSource(2))
	for range 2000 {
		a, b, c := anyInt(r, 60), anyInt(r, 60), anyInt(r, 60)
		if Add(a, b) != Add(b, a) || Mul(a, b) != Mul(b, a) {
			t.Errorf("order of %s and %s", a, b)
		}
		if Mul(a, Add(b, c)) != Add(Mul(a, b), Mul(a, c)) {
			t.Errorf("%s distributed over %s and %s", a, b, c)
		}
		if Sub(Add(a, b), b) != a {
			t.Errorf("%s taken back from %s", b, a)
		}
		if Compare(a, b) != Compare(Add(a, c), Add(b, c)) || Compare(a, b) != -Compare(b, a) {
			t.Errorf("Compare of %s and %s, with %s", a, b, c)
		}
	}
}

func TestGarbage(t *testing.T) {
	numbers := append(garbage, "0", "1", "-7", api.Int(strings.Repeat("8", 99)))
	for _, a := range numbers {
		Small(a)
		Parse(string(a))
		Sign(a)
		Neg(a)
		Abs(a)
		Root(a)
		for _, n := range []int{-1, 0, 1, 2, 3, 5000, math.MaxInt} {
			Power(a, n)
		}
		for _, b := range numbers {
			Compare(a, b)
			Add(a, b)
			Sub(a, b)
			Mul(a, b)
			DivMod(a, b)
			Gcd(a, b)
		}
	}
}

// Numbers far longer than right ones are possible on the way.
func TestVeryLong(t *testing.T) {
	a := api.Int(strings.Repeat("9876543210", 2000))
	b := api.Int("-" + strings.Repeat("1234567", 1000))
	q, r, e := DivMod(a, b)
	if e != api.OK || Add(Mul(q, b), r) != a {
		t.Error("DivMod")
	}
	if root, _ := Root(Mul(a, a)); root != a {
		t.Error("Root")
	}
	if Gcd(Mul(a, "123456789123456789"), Mul(a, "1000000000000000000000")) != a {
		t.Error("Gcd")
	}
}
