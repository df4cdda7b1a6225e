package whole

import (
	"math"
	"math/big"
	"math/rand"
	"slices"
	"strings"
	"testing"

	"klippe/api"
)

// integers returns integers of many lengths: with words of zeros, of ones, and of any bits.
func integers(r *rand.Rand) []*big.Int {
	l := []*big.Int{big.NewInt(0), big.NewInt(1), big.NewInt(-1), big.NewInt(chunk), big.NewInt(chunk - 1), big.NewInt(math.MinInt64), big.NewInt(math.MaxInt64), big.NewInt(-math.MaxInt64), new(big.Int).SetUint64(math.MaxUint64), new(big.Int).SetUint64(1 << 63)}
	for _, n := range []int64{3, -7, 12345, 1 << 31, -1 << 32, 1<<32 - 1, 1 << 62, -1 << 62, 3037000499, 3037000500, -3037000500} {
		l = append(l, big.NewInt(n))
	}
	for bits := 60; bits < 1500; bits = bits*3/2 + 1 {
		power := new(big.Int).Lsh(big.NewInt(1), uint(bits))
		l = append(l, power, new(big.Int).Sub(power, big.NewInt(1)), new(big.Int).Add(power, big.NewInt(1)), new(big.Int).Rand(r, power), new(big.Int).Neg(new(big.Int).Rand(r, power)))
		l = append(l, new(big.Int).Lsh(new(big.Int).Rand(r, power), uint(r.Intn(200))))
	}
	return l
}

func of(n *big.Int) Int { return Of(api.Int(n.String())) }

// checkSmall expects an int exactly where the magnitude is one, as equal integers have only one form.
func checkSmall(t *testing.T, x Int, n *big.Int) {
	t.Helper()
	want := n.IsInt64() && n.Int64() != math.MinInt64
	if small, is := x.Small(); is != want || is && int64(small) != n.Int64() || x.Sign() != n.Sign() {
		t.Fatalf("Small of %s = %d, %t", n, small, is)
	}
}

func TestText(t *testing.T) {
	for _, n := range integers(rand.New(rand.NewSource(1))) {
		x := of(n)
		if string(x.Text()) != n.String() || x.Sign() != n.Sign() {
			t.Errorf("%s is %s, with the sign %d", n, x.Text(), x.Sign())
		}
		if len(x.size()) != len(n.Bits()) {
			t.Errorf("%s has %d words", n, len(x.size()))
		}
		checkSmall(t, x, n)
	}
	for n, want := range map[int]api.Int{0: "0", -7: "-7", math.MaxInt: "9223372036854775807", math.MinInt: "-9223372036854775808"} {
		if got := From(n).Text(); got != want {
			t.Errorf("From(%d) = %s", n, got)
		}
	}
	if x := (Int{}); x.Text() != "0" || x.Sign() != 0 || x.Neg().Text() != "0" {
		t.Error("the value of the type is not 0")
	}
}

func TestArithmetic(t *testing.T) {
	l := integers(rand.New(rand.NewSource(2)))
	for _, a := range l {
		for _, b := range l {
			x, y := of(a), of(b)
			product := new(big.Int).Mul(a, b)
			for name, c := range map[string]struct {
				got  Int
				want *big.Int
			}{
				"sum":        {x.Add(y), new(big.Int).Add(a, b)},
				"difference": {x.Sub(y), new(big.Int).Sub(a, b)},
				"product":    {x.Mul(y), product},
				"opposite":   {x.Neg(), new(big.Int).Neg(a)},
				"magnitude":  {x.Abs(), new(big.Int).Abs(a)},
			} {
				if string(c.got.Text()) != c.want.String() {
					t.Fatalf("%s of %s and %s: %s", name, a, b, c.got.Text())
				}
				checkSmall(t, c.got, c.want)
			}
			if Compare(x, y) != a.Cmp(b) {
				t.Fatalf("Compare(%s, %s) = %d", a, b, Compare(x, y))
			}
			if b.Sign() != 0 && string(of(product).Over(y).Text()) != a.String() {
				t.Fatalf("%s over %s is %s", product, b, of(product).Over(y).Text())
			}
			if string(x.Text()) != a.String() || string(y.Text()) != b.String() {
				t.Fatalf("%s or %s has changed", a, b)
			}
		}
		if of(a).Over(Int{}).Sign() != 0 {
			t.Errorf("%s over 0", a)
		}
	}
}

// TestNotExact divides where the quotient is no integer: any answer will do.
func TestNotExact(t *testing.T) {
	l := integers(rand.New(rand.NewSource(3)))
	for _, a := range l {
		for _, b := range l {
			of(a).Over(of(b))
		}
	}
}

func TestRatio(t *testing.T) {
	l := integers(rand.New(rand.NewSource(4)))
	for _, a := range l {
		for _, b := range l {
			if b.Sign() == 0 {
				continue
			}
			if got := Ratio(of(a), of(b)); string(got) != new(big.Rat).SetFrac(a, b).RatString() {
				t.Fatalf("Ratio(%s, %s) = %s", a, b, got)
			}
		}
	}
	for _, c := range []struct {
		x, y int
		want api.Rational
	}{{6, -4, "-3/2"}, {0, 5, "0"}, {0, -5, "0"}, {-9, -3, "3"}, {7, 9, "7/9"}, {-7, 9, "-7/9"}} {
		if got := Ratio(From(c.x), From(c.y)); got != c.want {
			t.Errorf("Ratio(%d, %d) = %s", c.x, c.y, got)
		}
	}
}

func TestCommon(t *testing.T) {
	for s, want := range map[string]string{
		"":               " 1",
		"0 5 -7":         " 0 5 -7 1",
		"1/2 -1/3 0":     " 3 -2 0 6",
		"1/4 5/6 3":      " 3 10 36 12",
		"-4/3 2/3":       " -4 2 3",
		"7 -1/12 5/8 60": " 168 -2 15 1440 24",
	} {
		var l []api.Rational
		for _, word := range strings.Fields(s) {
			l = append(l, api.Rational(word))
		}
		got := ""
		for _, x := range Common(l...) {
			got += " " + string(x.Text())
		}
		if got != want {
			t.Errorf("Common(%s) = %s", s, got)
		}
	}
	most := api.Rational(strings.Repeat("9", 200))
	if l := Common(most, "1/"+most); l[0].Text() != l[2].Mul(l[2]).Text() || l[1].Text() != "1" || l[2].Text() != api.Int(most) {
		t.Errorf("Common = %v", l)
	}
}

func TestPrimitive(t *testing.T) {
	for s, want := range map[string]string{
		"":           "1:",
		"0 0":        "1: 0 0",
		"1/2 -1/3 0": "6: 3 -2 0",
		"4 6":        "1/2: 2 3",
		"-4/3 2/9":   "9/2: -6 1",
		"-7":         "1/7: -1",
		"0 5/6":      "6/5: 0 1",
	} {
		var l []api.Rational
		for _, word := range strings.Fields(s) {
			l = append(l, api.Rational(word))
		}
		before := slices.Clone(l)
		multiple, factor := Primitive(l...)
		got := string(factor) + ":"
		for _, x := range multiple {
			got += " " + string(x.Text())
		}
		if got != want || !slices.Equal(l, before) {
			t.Errorf("Primitive(%s) = %s", s, got)
		}
	}
}

// TestWithout leaves out words, up to all of them.
func TestWithout(t *testing.T) {
	for _, a := range integers(rand.New(rand.NewSource(5))) {
		x := of(a)
		if x.Words() != len(a.Bits()) {
			t.Errorf("%s has %d words", a, x.Words())
		}
		for lowest := range x.Words() + 2 {
			want := new(big.Int).Quo(a, new(big.Int).Lsh(big.NewInt(1), uint(64*lowest)))
			got := x.Without(lowest)
			if string(got.Text()) != want.String() {
				t.Errorf("%s without %d words is %s", a, lowest, got.Text())
			}
			checkSmall(t, got, want)
		}
		if string(x.Text()) != a.String() {
			t.Errorf("%s has changed", a)
		}
	}
}
