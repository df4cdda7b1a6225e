package program

import (
	"math/rand"
	"reflect"
	"slices"
	"testing"

	"klippe/api"
	"klippe/rational"
)

// prove looks at a result by the definitions of the document, with package big.
func prove(t *testing.T, p Problem, r Result) {
	t.Helper()
	at := func(row api.Row, l []api.Rational) int { return sum(row.Factors, l).Cmp(rat(row.Bound)) }
	if r.Kind != Infeasible && (len(r.Point) != p.Variables || slices.ContainsFunc(p.Rows, func(row api.Row) bool { return at(row, r.Point) > 0 })) {
		t.Fatalf("%v is not feasible for %v", r.Point, p)
	}
	var bounds []api.Rational
	for _, row := range p.Rows {
		bounds = append(bounds, row.Bound)
	}
	if r.Kind != Unbounded && (len(r.Dual.Multipliers) != len(p.Rows) || slices.ContainsFunc(r.Dual.Multipliers, func(x api.Rational) bool { return rat(x).Sign() < 0 })) {
		t.Fatalf("%v is no dual of %v", r.Dual, p)
	}
	weighed := func(variable int) string {
		var column []api.Rational
		for _, row := range p.Rows {
			column = append(column, row.Factors[variable])
		}
		return sum(column, r.Dual.Multipliers).RatString()
	}
	right := false
	switch r.Kind {
	case Optimal:
		right = sum(p.Objective, r.Point).RatString() == string(r.Value) && sum(bounds, r.Dual.Multipliers).RatString() == string(rational.Neg(r.Value)) && len(r.Ray) == 0
		for i := range p.Variables {
			right = right && weighed(i) == string(rational.Neg(p.Objective[i]))
		}
	case Infeasible:
		right = sum(bounds, r.Dual.Multipliers).Sign() < 0 && r.Value == "" && len(r.Point)+len(r.Ray) == 0
		for i := range p.Variables {
			right = right && weighed(i) == "0"
		}
	case Unbounded:
		right = len(r.Ray) == p.Variables && sum(p.Objective, r.Ray).Sign() < 0 && r.Value == "" && len(r.Dual.Multipliers) == 0
		for _, row := range p.Rows {
			right = right && sum(row.Factors, r.Ray).Sign() <= 0
		}
	}
	if e := Verify(p, r); !right || e != api.OK {
		t.Fatalf("%v is no right result of %v; Verify: %d", r, p, e)
	}
}

func TestMinimize(t *testing.T) {
	for _, c := range []struct {
		objective, rows string
		kind            int
		value           api.Rational
	}{
		{"1", "1 <= 3, -1 <= -1", Optimal, "1"}, {"-1", "1 <= 3, -1 <= -1", Optimal, "-3"}, {"0", "1 <= 3, -1 <= -1", Optimal, "0"}, {"1", "1 <= 1, -1 <= -2", Infeasible, ""}, {"1", "", Unbounded, ""}, {"0", "", Optimal, "0"},
		{"", "", Optimal, "0"}, {"", "<= 0, <= 1", Optimal, "0"}, {"", "<= 1, <= -1/2, <= -3", Infeasible, ""}, {"1 1", "-1 0 <= 0, 0 -1 <= 0", Optimal, "0"}, {"1 -1", "-1 0 <= 0, 0 -1 <= 0", Unbounded, ""},
		{"-1 -1", "1 2 <= 4, 2 1 <= 4", Optimal, "-8/3"}, {"-1 0", "1 2 <= 4, 2 1 <= 4", Unbounded, ""}, {"-1 -1", "1 1 <= 1/2", Optimal, "-1/2"}, {"-1 -2", "1 1 <= 1/2", Unbounded, ""}, {"5 5", "0 0 <= -1", Infeasible, ""}, {"5 5", "1 1 <= 1, -1 -1 <= -1, 1 -1 <= 0, -1 1 <= 0", Optimal, "5"},
		{"1 0 0", "1 1 1 <= -1, -1 -1 -1 <= 1", Unbounded, ""}, {"-3/2 -3/2 -3/2", "1 1 1 <= -1, -1 -1 -1 <= 1", Optimal, "3/2"}, {"0 0", "1 1 <= -5, -1 0 <= 2, 0 -1 <= 2", Infeasible, ""}, {"1", "2 <= 3, 2 <= 3, -2 <= -3, -4 <= -6", Optimal, "3/2"},
		// This one goes in circles by many rules (Beale).
		{"-3/4 150 -1/50 6", "1/4 -60 -1/25 9 <= 0, 1/2 -90 -1/50 3 <= 0, 0 0 1 0 <= 1, -1 0 0 0 <= 0, 0 -1 0 0 <= 0, 0 0 -1 0 <= 0, 0 0 0 -1 <= 0", Optimal, "-1/20"},
	} {
		p := problem(c.objective, c.rows)
		r, e := Minimize(p)
		if r.Kind != c.kind || r.Value != c.value || e != api.OK {
			t.Errorf("Minimize(%s; %s) = %v, %d", c.objective, c.rows, r, e)
		}
		prove(t, p, r)
	}
	r, _ := Minimize(problem("1", "1 <= 3, -1 <= -1"))
	if !slices.Equal(r.Point, l("1")) || !slices.Equal(r.Dual.Multipliers, l("0 1")) {
		t.Errorf("Minimize = %v", r)
	}
}

func TestMinimizeAny(t *testing.T) {
	r := rand.New(rand.NewSource(1))
	kinds := map[int]int{}
	for i := range 4000 {
		p := anyProblem(r, r.Intn(6), r.Intn(12))
		if i%20 == 0 {
			p = anyProblem(r, 5+r.Intn(10), r.Intn(40))
		}
		result, e := Minimize(p)
		if e != api.OK {
			t.Fatalf("Minimize(%v): %d", p, e)
		}
		prove(t, p, result)
		kinds[result.Kind]++
		checkFeasibleAlone(t, p, result.Kind)
		checkRelated(t, r, p, result)
	}
	if min(kinds[Optimal], kinds[Infeasible], kinds[Unbounded]) < 300 {
		t.Errorf("kinds: %v", kinds)
	}
}

// checkFeasibleAlone looks at Feasible for a problem of a kind.
func checkFeasibleAlone(t *testing.T, p Problem, kind int) {
	t.Helper()
	point, proof, is, e := Feasible(p)
	if is != (kind != Infeasible) || e != api.OK {
		t.Fatalf("Feasible(%v) = %v, %v, %t, %d", p, point, proof, is, e)
	}
	without := p
	without.Objective = slices.Repeat(l("0"), p.Variables)
	if !is {
		prove(t, without, Result{Kind: Infeasible, Dual: proof, Point: point})
		checkSupport(t, without, proof)
		return
	}
	zero := dual("")
	for range p.Rows {
		zero.Multipliers = append(zero.Multipliers, "0")
	}
	prove(t, without, Result{Kind: Optimal, Value: "0", Point: point, Dual: zero})
	if proof.Multipliers != nil {
		t.Fatalf("Feasible(%v) has a proof", p)
	}
}

// checkSupport expects the rows that refute to have no feasible point.
func checkSupport(t *testing.T, p Problem, proof api.Dual) {
	t.Helper()
	alone := p
	alone.Rows = nil
	for _, i := range Support(proof) {
		alone.Rows = append(alone.Rows, p.Rows[i])
	}
	if _, _, is, _ := Feasible(alone); is {
		t.Fatalf("%v does not refute %v", proof, p)
	}
}

// checkRelated compares the result with that of the problem with a further row, and with the objective times a number.
func checkRelated(t *testing.T, r *rand.Rand, p Problem, result Result) {
	t.Helper()
	greater := p
	greater.Objective = nil
	for _, x := range p.Objective {
		greater.Objective = append(greater.Objective, rational.Mul(x, "7/3"))
	}
	other, _ := Minimize(greater)
	if other.Kind != result.Kind || result.Kind == Optimal && other.Value != rational.Mul(result.Value, "7/3") {
		t.Fatalf("%v has the result %v; times 7/3 it is %v", p, result, other)
	}
	more := p
	more.Rows = append(slices.Clone(p.Rows), anyProblem(r, p.Variables, 1).Rows...)
	other, _ = Minimize(more)
	if other.Kind == Optimal && (result.Kind == Infeasible || result.Kind == Optimal && rational.Compare(other.Value, result.Value) < 0) || other.Kind == Unbounded && result.Kind != Unbounded {
		t.Fatalf("%v has the result %v; with a further row it is %v", p, result, other)
	}
}

func TestRange(t *testing.T) {
	p := problem("0 0 0", "1 0 0 <= 3, -1 0 0 <= -1, 0 -1 0 <= 1/2, 1 0 1 <= 5")
	for variable, want := range [][2]api.Rational{{"1", "3"}, {"-1/2", ""}, {"", "4"}} {
		if low, high, e := Range(p, variable); low != want[0] || high != want[1] || e != api.OK {
			t.Errorf("Range(%d) = %s, %s, %d", variable, low, high, e)
		}
	}
	if low, high, e := Range(problem("1 1", "0 1 <= 3"), 0); low+high != "" || e != api.OK {
		t.Errorf("Range = %s, %s, %d", low, high, e)
	}
	for _, c := range []struct {
		p        Problem
		variable int
		e        api.Errno
	}{{p, -1, api.ErrRange}, {p, 3, api.ErrRange}, {problem("", "<= -1"), 0, api.ErrRange}, {problem("1", "1 <= 1, -1 <= -2"), 1, api.ErrRange}, {problem("1", "1 <= 1, -1 <= -2"), 0, api.ErrInfeasible}} {
		if low, high, e := Range(c.p, c.variable); low+high != "" || e != c.e {
			t.Errorf("Range(%v, %d) = %s, %s, %d", c.p, c.variable, low, high, e)
		}
	}
	long := Problem{1, []api.Row{{Factors: l("1/11"), Bound: most}}, l("0")}
	if low, high, e := Range(long, 0); low+high != "" || e != api.ErrLimit {
		t.Errorf("Range = %s, %s, %d", low, high, e)
	}
}

func TestRangeAny(t *testing.T) {
	r := rand.New(rand.NewSource(2))
	for range 1000 {
		p := anyProblem(r, 1+r.Intn(4), r.Intn(9))
		variable := r.Intn(p.Variables)
		low, high, e := Range(p, variable)
		ends := [2]api.Rational{low, high}
		for i, sign := range []api.Rational{"1", "-1"} {
			p.Objective = slices.Repeat(l("0"), p.Variables)
			p.Objective[variable] = sign
			result, _ := Minimize(p)
			want := map[int]api.Errno{Optimal: api.OK, Infeasible: api.ErrInfeasible, Unbounded: api.OK}[result.Kind]
			if result.Kind == Optimal {
				result.Value = rational.Mul(result.Value, sign)
			}
			if ends[i] != result.Value || e != want {
				t.Fatalf("Range(%v, %d) = %s, %s, %d, and not %v", p, variable, low, high, e, result)
			}
		}
	}
}

// TestShort has problems whose results are never too long.
func TestShort(t *testing.T) {
	r := rand.New(rand.NewSource(3))
	number := func() api.Rational {
		x, _ := rational.Of(r.Intn(19999)-9999, 9999-r.Intn(99))
		return x
	}
	list := func(n int) []api.Rational {
		var l []api.Rational
		for range n {
			l = append(l, number())
		}
		return l
	}
	for i := range 300 {
		p := Problem{Variables: 6 - i%2*r.Intn(6), Rows: make([]api.Row, 12)}
		p.Objective = list(p.Variables)
		for i := range p.Rows {
			p.Rows[i] = api.Row{Factors: list(p.Variables), Bound: number()}
		}
		result, e := Minimize(p)
		if e != api.OK {
			t.Fatalf("Minimize(%v): %d", p, e)
		}
		prove(t, p, result)
		checkFeasibleAlone(t, p, result.Kind)
	}
}

func TestLong(t *testing.T) {
	far := Problem{1, []api.Row{{Factors: l("-1/11"), Bound: "-" + most}}, l("1")}
	if r, e := Minimize(far); r.Kind != 0 || r.Point != nil || r.Value != "" || r.Dual.Multipliers != nil || e != api.ErrLimit {
		t.Errorf("Minimize = %v, %d", r, e)
	}
	if point, proof, is, e := Feasible(far); point != nil || proof.Multipliers != nil || is || e != api.ErrLimit {
		t.Errorf("Feasible = %v, %v, %t, %d", point, proof, is, e)
	}
	// The ratio of both multipliers is too long.
	apart := Problem{1, []api.Row{{Factors: []api.Rational{most}, Bound: "-1"}, {Factors: l("-1/11"), Bound: "0"}}, l("1")}
	if point, proof, is, e := Feasible(apart); point != nil || proof.Multipliers != nil || is || e != api.ErrLimit {
		t.Errorf("Feasible = %v, %v, %t, %d", point, proof, is, e)
	}
	if r, e := Minimize(apart); r.Kind != 0 || r.Dual.Multipliers != nil || e != api.ErrLimit {
		t.Errorf("Minimize = %v, %d", r, e)
	}
	near := Problem{1, []api.Row{{Factors: l("-1"), Bound: "-" + most}}, l("1")}
	if r, e := Minimize(near); r.Value != most || e != api.OK {
		t.Errorf("Minimize = %v, %d", r, e)
	}
}

// TestGreatest has problems of the greatest size, one of which has very many places where more rows meet than necessary.
func TestGreatest(t *testing.T) {
	r := rand.New(rand.NewSource(4))
	for i := range 3 {
		p := zeros(MaxVariables, MaxRows)
		for j := range p.Objective {
			p.Objective[j] = rational.Whole(r.Intn(5))
		}
		for j, row := range p.Rows {
			for range 6 {
				row.Factors[r.Intn(MaxVariables)] = rational.Whole(r.Intn(3) - 1)
			}
			if j < MaxVariables {
				row.Factors[j] = "-1"
			}
			p.Rows[j].Bound = rational.Whole(r.Intn(3) * i)
		}
		result, e := Minimize(p)
		if e != api.OK {
			t.Fatalf("Minimize: %d", e)
		}
		prove(t, p, result)
	}
}

// TestKept looks whether arguments are changed, and whether results are new.
func TestKept(t *testing.T) {
	build := func() Problem { return problem("-1 -1", "1 2 <= 4, 2 1 <= 4, -1 -1/2 <= 3") }
	p := build()
	first, _ := Minimize(p)
	for _, list := range [][]api.Rational{first.Point, first.Dual.Multipliers} {
		for i := range list {
			list[i] = "x"
		}
	}
	second, _ := Minimize(p)
	point, _, _, _ := Feasible(p)
	point[0] = "x"
	Range(p, 1)
	prove(t, p, second)
	if !reflect.DeepEqual(p, build()) {
		t.Errorf("the problem is now %v", p)
	}
}
