package program

import (
	"math"
	"slices"
	"testing"

	"klippe/api"
)

func TestRefutes(t *testing.T) {
	p := problem("1", "1 <= 1, -1 <= -2")
	for s, want := range map[string]api.Errno{"1 1": api.OK, "2/3 2/3": api.OK, "0 0": api.ErrCertificate, "1 2": api.ErrCertificate, "1 0": api.ErrCertificate, "-1 -1": api.ErrRange, "1 -1": api.ErrRange, "1": api.ErrSize, "1 1 1": api.ErrSize, "": api.ErrSize, "x": api.ErrSize, "-1 x": api.ErrNumber, "1 2/2": api.ErrNumber} {
		if e := Refutes(p, dual(s)); e != want {
			t.Errorf("Refutes(%s) = %d, not %d", s, e, want)
		}
	}
	for _, x := range notRight {
		if e := Refutes(p, api.Dual{Multipliers: []api.Rational{"1", x}}); e != api.ErrNumber {
			t.Errorf("Refutes with %s: %d", x, e)
		}
	}
	// The bounds must add up to less than 0, and the factors to 0 for each variable.
	for _, c := range []struct {
		p    Problem
		d    string
		want api.Errno
	}{
		{problem("1", "1 <= 2, -1 <= -2"), "1 1", api.ErrCertificate}, {problem("1", "1 <= 3, -1 <= -2"), "1 1", api.ErrCertificate}, {problem("1 1", "1 1 <= 1, -1 0 <= -2"), "1 1", api.ErrCertificate}, {problem("1 1", "1 1 <= 1, -1 0 <= -2, 0 -1/2 <= 1/4"), "1 1 2", api.OK},
		{problem("", "<= -1"), "1", api.OK}, {problem("", "<= -1"), "0", api.ErrCertificate}, {problem("", ""), "", api.ErrCertificate}, {problem("5", ""), "", api.ErrCertificate},
	} {
		if e := Refutes(c.p, dual(c.d)); e != c.want {
			t.Errorf("Refutes(%v, %s) = %d, not %d", c.p, c.d, e, c.want)
		}
	}
}

func TestBound(t *testing.T) {
	p := problem("1 0", "1 0 <= 3, -1 0 <= -1, 0 1 <= 7, 0 -1 <= 0")
	for s, want := range map[string]api.Rational{"0 1 0 0": "1", "1 2 0 0": "-1", "0 1 1/2 1/2": "-5/2"} {
		if bound, e := Bound(p, dual(s)); bound != want || e != api.OK {
			t.Errorf("Bound(%s) = %s, %d", s, bound, e)
		}
	}
	for s, want := range map[string]api.Errno{"0 0 0 0": api.ErrCertificate, "1 0 0 0": api.ErrCertificate, "0 1 1 0": api.ErrCertificate, "-1 0 0 0": api.ErrRange, "0 1 0": api.ErrSize, "0 1 0 0 0": api.ErrSize, "-1 0 0 x": api.ErrNumber, "0 2/2 0 0": api.ErrNumber} {
		if bound, e := Bound(p, dual(s)); bound != "" || e != want {
			t.Errorf("Bound(%s) = %s, %d, not %d", s, bound, e, want)
		}
	}
	if bound, e := Bound(problem("", ""), api.Dual{}); bound != "0" || e != api.OK {
		t.Errorf("Bound = %s, %d", bound, e)
	}
	long := Problem{1, []api.Row{{Factors: l("1"), Bound: most}}, l("-11")}
	if bound, e := Bound(long, dual("11")); bound != "" || e != api.ErrLimit {
		t.Errorf("Bound = %s, %d", bound, e)
	}
	if bound, e := Bound(long, dual("10")); bound != "" || e != api.ErrCertificate {
		t.Errorf("Bound = %s, %d", bound, e)
	}
}

func TestVerifyOptimal(t *testing.T) {
	p := problem("1 0", "1 0 <= 3, -1 0 <= -1")
	right := Result{Optimal, "1", l("1 5"), dual("0 1"), nil}
	changed := func(change func(r *Result)) Result {
		r := right
		change(&r)
		return r
	}
	for i, c := range []struct {
		r    Result
		want api.Errno
	}{
		{right, api.OK}, {changed(func(r *Result) { r.Point = l("1 -7/2") }), api.OK}, {changed(func(r *Result) { r.Ray = []api.Rational{} }), api.OK},
		{changed(func(r *Result) { r.Kind, r.Ray = 0, l("1") }), api.ErrKind}, {changed(func(r *Result) { r.Kind = 4 }), api.ErrKind}, {changed(func(r *Result) { r.Kind = math.MinInt }), api.ErrKind},
		{changed(func(r *Result) { r.Ray, r.Point = l("x"), nil }), api.ErrForm}, {changed(func(r *Result) { r.Point, r.Value = l("1"), "" }), api.ErrSize}, {changed(func(r *Result) { r.Point, r.Value = l("x y z"), "" }), api.ErrSize}, {changed(func(r *Result) { r.Point, r.Value = l("9 x"), "" }), api.ErrNumber},
		{changed(func(r *Result) { r.Point, r.Value = l("0 0"), "" }), api.ErrCertificate}, {changed(func(r *Result) { r.Value, r.Dual = "", dual("") }), api.ErrNumber}, {changed(func(r *Result) { r.Value, r.Dual = "2/2", dual("") }), api.ErrNumber},
		{changed(func(r *Result) { r.Dual = dual("1") }), api.ErrSize}, {changed(func(r *Result) { r.Dual = dual("-1 x") }), api.ErrNumber}, {changed(func(r *Result) { r.Dual = dual("-1 0") }), api.ErrRange}, {changed(func(r *Result) { r.Dual = dual("0 2") }), api.ErrCertificate},
		{changed(func(r *Result) { r.Value = "2" }), api.ErrCertificate}, {changed(func(r *Result) { r.Point = l("2 0") }), api.ErrCertificate}, {changed(func(r *Result) { r.Dual = dual("1 2") }), api.ErrCertificate}, {changed(func(r *Result) { r.Point, r.Value = l("2 0"), "2" }), api.ErrCertificate}, {changed(func(r *Result) { r.Dual, r.Value = dual("1 2"), "-1" }), api.ErrCertificate},
	} {
		if e := Verify(p, c.r); e != c.want {
			t.Errorf("%d: Verify(%v) = %d, not %d", i, c.r, e, c.want)
		}
	}
	long := Problem{1, []api.Row{{Factors: l("1"), Bound: most}}, l("-11")}
	if e := Verify(long, Result{Optimal, "-" + most, []api.Rational{most}, dual("11"), nil}); e != api.ErrCertificate {
		t.Errorf("Verify = %d", e)
	}
}

func TestVerifyInfeasible(t *testing.T) {
	p := problem("1", "1 <= 1, -1 <= -2")
	for i, c := range []struct {
		r    Result
		want api.Errno
	}{
		{Result{Kind: Infeasible, Dual: dual("1 1")}, api.OK}, {Result{Kind: Infeasible, Dual: dual("1/2 1/2"), Point: []api.Rational{}}, api.OK},
		{Result{Kind: Infeasible, Value: "0"}, api.ErrForm}, {Result{Kind: Infeasible, Point: l("x")}, api.ErrForm}, {Result{Kind: Infeasible, Ray: l("1")}, api.ErrForm},
		{Result{Kind: Infeasible, Dual: dual("1")}, api.ErrSize}, {Result{Kind: Infeasible, Dual: dual("-1 x")}, api.ErrNumber}, {Result{Kind: Infeasible, Dual: dual("-1 -1")}, api.ErrRange}, {Result{Kind: Infeasible, Dual: dual("1 2")}, api.ErrCertificate},
	} {
		if e := Verify(p, c.r); e != c.want {
			t.Errorf("%d: Verify(%v) = %d, not %d", i, c.r, e, c.want)
		}
	}
}

func TestVerifyUnbounded(t *testing.T) {
	p := problem("1 1", "0 1 <= 2, 0 -1 <= 1")
	for i, c := range []struct {
		r    Result
		want api.Errno
	}{
		{Result{Kind: Unbounded, Point: l("0 0"), Ray: l("-1 0")}, api.OK}, {Result{Kind: Unbounded, Point: l("7 -1"), Ray: l("-1/3 0"), Dual: api.Dual{Multipliers: []api.Rational{}}}, api.OK},
		{Result{Kind: Unbounded, Value: "0"}, api.ErrForm}, {Result{Kind: Unbounded, Dual: dual("x")}, api.ErrForm},
		{Result{Kind: Unbounded, Point: l("0"), Ray: l("x")}, api.ErrSize}, {Result{Kind: Unbounded, Point: l("9 x"), Ray: l("x")}, api.ErrNumber}, {Result{Kind: Unbounded, Point: l("0 3"), Ray: l("x")}, api.ErrCertificate},
		{Result{Kind: Unbounded, Point: l("0 0"), Ray: l("x")}, api.ErrSize}, {Result{Kind: Unbounded, Point: l("0 0"), Ray: l("-1 x")}, api.ErrNumber}, {Result{Kind: Unbounded, Point: l("0 0")}, api.ErrSize},
		{Result{Kind: Unbounded, Point: l("0 0"), Ray: l("0 0")}, api.ErrCertificate}, {Result{Kind: Unbounded, Point: l("0 0"), Ray: l("1 0")}, api.ErrCertificate}, {Result{Kind: Unbounded, Point: l("0 0"), Ray: l("-2 1")}, api.ErrCertificate}, {Result{Kind: Unbounded, Point: l("0 0"), Ray: l("0 -1")}, api.ErrCertificate},
	} {
		if e := Verify(p, c.r); e != c.want {
			t.Errorf("%d: Verify(%v) = %d, not %d", i, c.r, e, c.want)
		}
	}
}

func TestSupport(t *testing.T) {
	for s, want := range map[string][]int{"": nil, "0 0": nil, "1 0 1/2": {0, 2}, "0 -1 x 0 00": {1, 2, 4}} {
		if got := Support(dual(s)); !slices.Equal(got, want) {
			t.Errorf("Support(%s) = %v", s, got)
		}
	}
	if got := Support(api.Dual{Multipliers: []api.Rational{""}}); !slices.Equal(got, []int{0}) {
		t.Errorf("Support of an empty number = %v", got)
	}
}
