package program

import (
	"slices"

	"klippe/api"
	"klippe/numbers"
	"klippe/rational"
)

// Refutes returns OK for a dual that proves that no point is feasible.
func Refutes(p Problem, d api.Dual) api.Errno {
	if e := checkDual(p, d); e != api.OK {
		return e
	}
	return refutes(p, d)
}

// checkDual returns the error of a problem, or of the multipliers of a dual.
func checkDual(p Problem, d api.Dual) api.Errno {
	if e := Check(p); e != api.OK {
		return e
	}
	return checkMultipliers(p, d)
}

func checkMultipliers(p Problem, d api.Dual) api.Errno {
	if e := checkList(d.Multipliers, len(p.Rows)); e != api.OK {
		return e
	}
	if slices.ContainsFunc(d.Multipliers, func(x api.Rational) bool { return rational.Sign(x) < 0 }) {
		return api.ErrRange
	}
	return api.OK
}

func refutes(p Problem, d api.Dual) api.Errno {
	sum := weigh(p, d)
	if rational.Sign(sum.Bound) >= 0 || slices.ContainsFunc(sum.Factors, func(x api.Rational) bool { return x != "0" }) {
		return api.ErrCertificate
	}
	return api.OK
}

// weigh returns the sum of the rows times their multipliers.
func weigh(p Problem, d api.Dual) api.Row {
	sum := api.Row{Factors: slices.Repeat([]api.Rational{"0"}, p.Variables), Bound: "0"}
	for _, i := range Support(d) {
		add := func(total, x api.Rational) api.Rational {
			return rational.Add(total, rational.Mul(x, d.Multipliers[i]))
		}
		for j, x := range p.Rows[i].Factors {
			sum.Factors[j] = add(sum.Factors[j], x)
		}
		sum.Bound = add(sum.Bound, p.Rows[i].Bound)
	}
	return sum
}

// Bound returns the number below which a dual proves no worth to be.
func Bound(p Problem, d api.Dual) (api.Rational, api.Errno) {
	if e := checkDual(p, d); e != api.OK {
		return "", e
	}
	bound, e := boundOf(p, d)
	if e != api.OK {
		return "", e
	}
	return numbers.Result(bound, bound)
}

// boundOf returns the bound of a dual, of any length, or ErrCertificate if it does not bound.
func boundOf(p Problem, d api.Dual) (api.Rational, api.Errno) {
	sum := weigh(p, d)
	for j, x := range sum.Factors {
		if rational.Neg(x) != p.Objective[j] {
			return "", api.ErrCertificate
		}
	}
	return rational.Neg(sum.Bound), api.OK
}

// Verify returns OK for a right result.
func Verify(p Problem, r Result) api.Errno {
	if e := Check(p); e != api.OK {
		return e
	}
	switch r.Kind {
	case Optimal:
		return verifyOptimal(p, r)
	case Infeasible:
		return verifyInfeasible(p, r)
	case Unbounded:
		return verifyUnbounded(p, r)
	}
	return api.ErrKind
}

func verifyOptimal(p Problem, r Result) api.Errno {
	if len(r.Ray) > 0 {
		return api.ErrForm
	}
	if e := checkFeasible(p, r.Point); e != api.OK {
		return e
	}
	if e := rational.Check(r.Value); e != api.OK {
		return e
	}
	if e := checkMultipliers(p, r.Dual); e != api.OK {
		return e
	}
	// A bound that is too long is not the value, so it needs no error of its own.
	bound, e := boundOf(p, r.Dual)
	if e == api.OK && (bound != r.Value || dot(p.Objective, r.Point) != r.Value) {
		return api.ErrCertificate
	}
	return e
}

func verifyInfeasible(p Problem, r Result) api.Errno {
	if r.Value != "" || len(r.Point) > 0 || len(r.Ray) > 0 {
		return api.ErrForm
	}
	if e := checkMultipliers(p, r.Dual); e != api.OK {
		return e
	}
	return refutes(p, r.Dual)
}

func verifyUnbounded(p Problem, r Result) api.Errno {
	if r.Value != "" || len(r.Dual.Multipliers) > 0 {
		return api.ErrForm
	}
	if e := checkFeasible(p, r.Point); e != api.OK {
		return e
	}
	if e := checkList(r.Ray, p.Variables); e != api.OK {
		return e
	}
	rises := func(row api.Row) bool { return rational.Sign(dot(row.Factors, r.Ray)) > 0 }
	if slices.ContainsFunc(p.Rows, rises) || rational.Sign(dot(p.Objective, r.Ray)) >= 0 {
		return api.ErrCertificate
	}
	return api.OK
}

// checkFeasible returns the error of a point that must be feasible.
func checkFeasible(p Problem, point []api.Rational) api.Errno {
	if e := checkList(point, p.Variables); e != api.OK {
		return e
	}
	if len(violated(p, point)) > 0 {
		return api.ErrCertificate
	}
	return api.OK
}

// Support returns the rows with a multiplier that is not 0.
func Support(d api.Dual) []int {
	var l []int
	for i, x := range d.Multipliers {
		if x != "0" {
			l = append(l, i)
		}
	}
	return l
}
