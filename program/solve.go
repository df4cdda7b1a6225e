package program

import (
	"slices"

	"klippe/api"
	"klippe/numbers"
	"klippe/whole"
)

// Feasible returns a feasible point, or a dual that refutes the problem.
func Feasible(p Problem) (point []api.Rational, proof api.Dual, is bool, e api.Errno) {
	if e := Check(p); e != api.OK {
		return nil, api.Dual{}, false, e
	}
	t := newTableau(p)
	if t.enter() {
		point, e = right(t.point())
		return point, api.Dual{}, e == api.OK, e
	}
	proof.Multipliers, e = right(t.refutation())
	return nil, proof, false, e
}

// right returns a list, or ErrLimit if a number of it is too long.
func right(l []api.Rational) ([]api.Rational, api.Errno) { return numbers.Result(l, l...) }

// Minimize returns a right result of a problem.
func Minimize(p Problem) (Result, api.Errno) {
	if e := Check(p); e != api.OK {
		return Result{}, e
	}
	r := minimize(p)
	return numbers.Result(r, slices.Concat(r.Point, r.Dual.Multipliers, r.Ray, []api.Rational{r.Value})...)
}

func minimize(p Problem) Result {
	t := newTableau(p)
	if !t.enter() {
		return Result{Kind: Infeasible, Dual: api.Dual{Multipliers: t.refutation()}}
	}
	multiple, factor := whole.Primitive(p.Objective...)
	objective := terms(multiple)
	ray := t.descend(objective)
	point := t.point()
	if ray != nil {
		return Result{Kind: Unbounded, Point: point, Ray: primitive(texts(ray[:p.Variables]))}
	}
	return Result{Kind: Optimal, Value: dot(p.Objective, point), Point: point, Dual: api.Dual{Multipliers: t.dual(objective, factor)}}
}

// refutation returns the multipliers that prove that there is always some excess. Only as integers without a common divisor they are never longer than they must be.
func (t *tableau) refutation() []api.Rational {
	return primitive(t.dual(t.excess(), "1"))
}

// primitive returns a positive multiple that has integers without a common divisor.
func primitive(l []api.Rational) []api.Rational {
	multiple, _ := whole.Primitive(l...)
	return texts(multiple)
}

func texts(l []whole.Int) []api.Rational {
	numbers := make([]api.Rational, len(l))
	for i, x := range l {
		numbers[i] = api.Rational(x.Text())
	}
	return numbers
}

// Range returns the least and the greatest value of a variable; one that does not exist is empty.
func Range(p Problem, variable int) (low, high api.Rational, e api.Errno) {
	if e := Check(p); e != api.OK {
		return "", "", e
	}
	if variable < 0 || variable >= p.Variables {
		return "", "", api.ErrRange
	}
	t := newTableau(p)
	if !t.enter() {
		return "", "", api.ErrInfeasible
	}
	ends, e := right([]api.Rational{t.end(variable, 1), t.end(variable, -1)})
	if e != api.OK {
		return "", "", e
	}
	return ends[0], ends[1], api.OK
}

// end returns the value of a variable whose multiple by a sign is least; it is empty if there is none.
func (t *tableau) end(variable, sign int) api.Rational {
	if t.descend([]term{{variable, whole.From(sign)}}) != nil {
		return ""
	}
	return t.point()[variable]
}
