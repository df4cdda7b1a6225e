package roots

import (
	"math/big"
	"math/rand"
	"slices"
	"strings"
	"testing"

	"klippe/api"
	"klippe/integer"
	"klippe/rational"
)

// ten returns a power of ten.
func ten(n int) string { return "1" + strings.Repeat("0", n) }

func TestProductOfPrimes(t *testing.T) {
	all := api.Int("1")
	for _, p := range primes {
		all = integer.Mul(all, integer.Of(p))
	}
	if all != product {
		t.Errorf("the product is %s", all)
	}
}

func TestOf(t *testing.T) {
	for _, c := range []struct {
		x    api.Rational
		want Term
	}{
		{"1", Term{"1", "1"}}, {"8", Term{"1", "8"}}, {"1/2", Term{"1/2", "2"}}, {"9/4", Term{"3/2", "1"}}, {"2/9", Term{"1/9", "18"}},
		// These are too long for a right number, before or after.
		{api.Rational(ten(600)), Term{api.Rational(ten(300)), "1"}}, {api.Rational("1/" + ten(300)), Term{api.Rational("1/" + ten(150)), "1"}}, {api.Rational("2/" + ten(300) + "3"), Term{api.Rational("1/" + ten(300) + "3"), api.Int("2" + ten(300)[1:] + "6")}},
	} {
		if got := Of(c.x); got != c.want {
			t.Errorf("Of(%s) = %v", c.x, got)
		}
	}
}

// TestMarks compares with the squares of all small integers.
func TestMarks(t *testing.T) {
	isSquare := map[int]bool{}
	for n := 1; n <= 200; n++ {
		isSquare[n*n] = true
	}
	for i := 1; i <= 200; i++ {
		m := Mark(Term{"1", integer.Of(i)})
		if m.IsSquare() != isSquare[i] {
			t.Errorf("%d: IsSquare = %t", i, m.IsSquare())
		}
		for j := 1; j <= 200; j++ {
			if is := m.IsAlike(Mark(Term{"-1/3", integer.Of(j)})); is != isSquare[i*j] {
				t.Errorf("%d and %d: IsAlike = %t", i, j, is)
			}
		}
	}
}

func TestSum(t *testing.T) {
	long := api.Int("2" + ten(500)[1:])
	for _, c := range []struct{ terms, want []Term }{
		{nil, nil},
		{[]Term{{"1", "8"}, {"1", "2"}}, []Term{{"3", "2"}}},
		{[]Term{{"1", "2"}, {"1", "8"}, {"-1/2", "18"}}, []Term{{"3/2", "2"}}},
		{[]Term{{"2", "2"}, {"5", "1"}, {"-1", "8"}}, []Term{{"5", "1"}}},
		{[]Term{{"1", "7"}, {"1", "3"}, {"0", "5"}, {"1", "12"}}, []Term{{"3", "3"}, {"1", "7"}}},
		{[]Term{{"1", "6"}, {"1/2", "1"}, {"1/2", "1"}}, []Term{{"1", "1"}, {"1", "6"}}},
		// The least radicand is right, the other one is not; then none is.
		{[]Term{{"1", long}, {"1", "2"}}, []Term{{api.Rational(ten(250)[:250] + "1"), "2"}}},
		{[]Term{{"1", long}, {"1/2", long}}, []Term{{"3/2", long}}},
	} {
		var s Sum
		for _, term := range c.terms {
			s.Add(term)
		}
		if got := s.Terms(); !slices.Equal(got, c.want) {
			t.Errorf("the sum of %v is %v", c.terms, got)
		}
	}
}

// TestSumLaws compares with sums of floating numbers, in any order.
func TestSumLaws(t *testing.T) {
	r := rand.New(rand.NewSource(1))
	for range 300 {
		var l []Term
		for range r.Intn(12) {
			factor, _ := rational.Of(r.Intn(19)-9, 1+r.Intn(5))
			l = append(l, Term{factor, integer.Of(1 + r.Intn(60))})
		}
		var s, shuffled Sum
		for _, term := range l {
			s.Add(term)
		}
		for _, i := range r.Perm(len(l)) {
			shuffled.Add(l[i])
		}
		got := s.Terms()
		if !slices.Equal(got, shuffled.Terms()) || s.Len() < len(got) || s.Len() != shuffled.Len() {
			t.Fatalf("%v: %v, and %v in another order", l, got, shuffled.Terms())
		}
		if difference := new(big.Float).Sub(value(l), value(got)); difference.Sign() != 0 && difference.MantExp(nil) > -300 {
			t.Fatalf("the sum of %v is %v", l, got)
		}
		for i, a := range got {
			for _, b := range got[:i] {
				if Mark(a).IsAlike(Mark(b)) || integer.Compare(b.Radicand, a.Radicand) >= 0 || a.Factor == "0" {
					t.Fatalf("the sum of %v is %v", l, got)
				}
			}
		}
	}
}

// value returns a sum with 400 bits.
func value(l []Term) *big.Float {
	sum := new(big.Float).SetPrec(400)
	for _, term := range l {
		factor, _ := new(big.Rat).SetString(string(term.Factor))
		radicand, _ := new(big.Int).SetString(string(term.Radicand), 10)
		root := new(big.Float).SetPrec(400).SetInt(radicand)
		root.Sqrt(root)
		sum.Add(sum, root.Mul(root, new(big.Float).SetPrec(400).SetRat(factor)))
	}
	return sum
}
