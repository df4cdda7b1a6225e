package program

import (
	"math"
	"math/big"
	"math/rand"
	"slices"
	"strings"
	"testing"

	"klippe/api"
	"klippe/rational"
	"klippe/samples"
)

var (
	most     = samples.Most()
	notRight = samples.NotRight()
)

func l(s string) []api.Rational { return samples.Numbers(s) }

// problem reads an objective, and rows like "1 2 <= 3" that are separated by commas.
func problem(objective, rows string) Problem {
	p := Problem{Objective: l(objective)}
	p.Variables = len(p.Objective)
	for s := range strings.SplitSeq(rows, ",") {
		if factors, bound, found := strings.Cut(s, "<="); found {
			p.Rows = append(p.Rows, api.Row{Factors: l(factors), Bound: api.Rational(strings.TrimSpace(bound))})
		}
	}
	return p
}

func dual(s string) api.Dual { return api.Dual{Multipliers: l(s)} }

// zeros makes a problem with so many variables and rows of zeros.
func zeros(variables, rows int) Problem {
	p := Problem{Variables: variables, Objective: slices.Repeat(l("0"), variables)}
	for range rows {
		p.Rows = append(p.Rows, api.Row{Factors: slices.Repeat(l("0"), variables), Bound: "0"})
	}
	return p
}

// anyProblem makes a problem of small integers, or of fractions; many of its numbers are 0.
func anyProblem(r *rand.Rand, variables, rows int) Problem {
	den, zeros := 1+r.Intn(2)*r.Intn(5), r.Intn(4)
	number := func(low int) api.Rational {
		if r.Intn(4) < zeros {
			return "0"
		}
		x, _ := rational.Of(low+r.Intn(9), 1+r.Intn(den))
		return x
	}
	p := Problem{Variables: variables}
	for range variables {
		p.Objective = append(p.Objective, number(-4))
	}
	low := -4 * r.Intn(2)
	for range rows {
		row := api.Row{Bound: number(low)}
		for range variables {
			row.Factors = append(row.Factors, number(-4))
		}
		p.Rows = append(p.Rows, row)
	}
	return p
}

// rat makes a number of package big.
func rat(x api.Rational) *big.Rat {
	n, _ := new(big.Rat).SetString(string(x))
	return n
}

// sum adds products up with package big.
func sum(a, b []api.Rational) *big.Rat {
	total := new(big.Rat)
	for i := range a {
		total.Add(total, new(big.Rat).Mul(rat(a[i]), rat(b[i])))
	}
	return total
}

func TestCheck(t *testing.T) {
	for _, p := range []Problem{{}, problem("1", ""), problem("", "<= -1, <= 1/2"), problem("1 -1/2", "1 0 <= 3, 0 0 <= -1"), zeros(60, 300), {Variables: 1, Objective: []api.Rational{most}, Rows: []api.Row{{Factors: []api.Rational{"1/" + most}, Bound: "-" + most}}}} {
		if e := Check(p); e != api.OK {
			t.Errorf("Check(%v) = %d", p, e)
		}
	}
	for _, c := range []struct {
		p Problem
		e api.Errno
	}{
		{Problem{Variables: -1}, api.ErrRange}, {Problem{Variables: math.MinInt}, api.ErrRange}, {Problem{Variables: math.MaxInt}, api.ErrRange}, {zeros(61, 301), api.ErrRange}, {zeros(60, 301), api.ErrLimit}, {zeros(0, 301), api.ErrLimit},
		{Problem{Variables: 1}, api.ErrSize}, {Problem{Objective: l("1")}, api.ErrSize}, {Problem{Variables: 2, Objective: l("x")}, api.ErrSize}, {problem("x", "1 2 <= 3"), api.ErrNumber}, {Problem{Objective: l("x"), Variables: 1, Rows: make([]api.Row, 301)}, api.ErrLimit},
		{problem("1", "<= 3"), api.ErrSize}, {problem("1", "1 2 <= 3"), api.ErrSize}, {problem("1", "x 2 <= 3"), api.ErrSize}, {problem("1", "x <= y"), api.ErrNumber}, {problem("1", "1 <= y"), api.ErrNumber},
		{problem("1", "1 <= 1, 1 <= x, 1 2 <= 3"), api.ErrNumber}, {problem("1", "1 <= 1, 1 2 <= 3, 1 <= x"), api.ErrSize},
	} {
		if e := Check(c.p); e != c.e {
			t.Errorf("Check(%v) = %d, not %d", c.p, e, c.e)
		}
	}
	for _, x := range notRight {
		for _, p := range []Problem{{1, nil, []api.Rational{x}}, {1, []api.Row{{Factors: []api.Rational{x}, Bound: "0"}}, l("0")}, {1, []api.Row{{Factors: l("0"), Bound: x}}, l("0")}} {
			if e := Check(p); e != api.ErrNumber {
				t.Errorf("Check(%v) = %d", p, e)
			}
		}
	}
}

func TestViolated(t *testing.T) {
	p := problem("1 1", "1 0 <= 3, -1 0 <= -1, 1/2 1/3 <= 1, 0 0 <= 0")
	for s, want := range map[string][]int{"1 1": nil, "3 0": {2}, "0 0": {1}, "4 4": {0, 2}, "0 4": {1, 2}, "1 3/2": nil, "1 8/5": {2}} {
		if got, e := Violated(p, l(s)); !slices.Equal(got, want) || e != api.OK {
			t.Errorf("Violated(%s) = %v, %d", s, got, e)
		}
	}
	if got, e := Violated(problem("", "<= 0, <= -1, <= 1, <= -1/2"), nil); !slices.Equal(got, []int{1, 3}) || e != api.OK {
		t.Errorf("Violated = %v, %d", got, e)
	}
	// A sum that is too long for a result is still compared.
	if got, e := Violated(Problem{1, []api.Row{{Factors: l("11"), Bound: most}}, l("0")}, []api.Rational{most}); !slices.Equal(got, []int{0}) || e != api.OK {
		t.Errorf("Violated = %v, %d", got, e)
	}
}

func TestWorth(t *testing.T) {
	for _, c := range []struct {
		objective, point string
		want             api.Rational
	}{{"1 -1/2", "3 4", "1"}, {"", "", "0"}, {"0 0", "7 7", "0"}, {"2/3", "-3/2", "-1"}} {
		if got, e := Worth(problem(c.objective, ""), l(c.point)); got != c.want || e != api.OK {
			t.Errorf("Worth(%s, %s) = %s, %d", c.objective, c.point, got, e)
		}
	}
	if got, e := Worth(problem("11", ""), []api.Rational{most}); got != "" || e != api.ErrLimit {
		t.Errorf("Worth = %s, %d", got, e)
	}
	if got, e := Worth(problem("11 -11", ""), []api.Rational{most, most}); got != "0" || e != api.OK {
		t.Errorf("Worth = %s, %d", got, e)
	}
}

func TestPointErrors(t *testing.T) {
	p := problem("1 1", "1 0 <= 3")
	for _, c := range []struct {
		p     Problem
		point string
		e     api.Errno
	}{{p, "1", api.ErrSize}, {p, "1 2 3", api.ErrSize}, {p, "x", api.ErrSize}, {p, "1 2/2", api.ErrNumber}, {p, "", api.ErrSize}, {problem("x", ""), "1 2", api.ErrNumber}, {zeros(61, 0), "1", api.ErrRange}} {
		rows, e1 := Violated(c.p, l(c.point))
		worth, e2 := Worth(c.p, l(c.point))
		if rows != nil || worth != "" || e1 != c.e || e2 != c.e {
			t.Errorf("at %s: %v, %d and %s, %d", c.point, rows, e1, worth, e2)
		}
	}
	for _, x := range notRight {
		if _, e := Violated(p, []api.Rational{"0", x}); e != api.ErrNumber {
			t.Errorf("Violated with %s: %d", x, e)
		}
		if _, e := Worth(p, []api.Rational{x, "0"}); e != api.ErrNumber {
			t.Errorf("Worth with %s: %d", x, e)
		}
	}
}

// TestErrors hands problems that are not right to the functions that have no further errors before theirs.
func TestErrors(t *testing.T) {
	for want, p := range map[api.Errno]Problem{api.ErrRange: zeros(61, 0), api.ErrLimit: zeros(1, 301), api.ErrSize: problem("1", "1 2 <= 3"), api.ErrNumber: problem("1", "1 <= x")} {
		point, proof, is, e1 := Feasible(p)
		r, e2 := Minimize(p)
		low, high, e3 := Range(p, -1)
		e4 := Refutes(p, dual("x"))
		bound, e5 := Bound(p, dual("x"))
		e6 := Verify(p, Result{Kind: 7})
		for _, e := range []api.Errno{e1, e2, e3, e4, e5, e6} {
			if e != want {
				t.Errorf("%d, not %d", e, want)
			}
		}
		if point != nil || proof.Multipliers != nil || is || r.Kind != 0 || r.Point != nil || low+high+bound != "" {
			t.Errorf("results beside the error %d", want)
		}
	}
}
