package program

import (
	"slices"

	"klippe/api"
	"klippe/rational"
	"klippe/whole"
)

// held is, instead of a row, the condition that a variable is 0. It holds at the beginning, and is no part of the problem.
const held = -1

// tableau is at a place where as many rows hold with equality as the place has coordinates: the variables, and the excess, by which each row may be greater than its bound, and which row 0 keeps from being negative. For each of these rows it has the direction in which this row alone grows. Place and directions are integers over one denominator, which is the last number of the place; directions have 0 there.
type tableau struct {
	variables  int
	rows       [][]term
	factors    []api.Rational // that make the rows of the problem integers
	basis      []int          // the rows that hold with equality
	directions [][]whole.Int  // for each row of the basis
	place      []whole.Int
}

// term is a number of a row that is not 0.
type term struct {
	at     int
	factor whole.Int
}

// obstacle is a row that ends a way: its rate tells how fast it is approached, and its slack how far it is.
type obstacle struct {
	row         int
	rate, slack whole.Int
}

// newTableau begins where all variables are 0, and the excess is as great as it must be.
func newTableau(p Problem) *tableau {
	n, one, minusOne := p.Variables, whole.From(1), whole.From(-1)
	t := &tableau{variables: n, rows: [][]term{{{n, minusOne}}}}
	first, equal := make([]whole.Int, n+1), 0
	for i, row := range p.Rows {
		multiple, factor := whole.Primitive(slices.Concat(row.Factors, []api.Rational{row.Bound})...)
		if whole.Compare(multiple[n], first[n]) < 0 {
			first, equal = multiple, i+1
		}
		t.factors = append(t.factors, factor)
		t.rows = append(t.rows, terms(slices.Concat(multiple[:n], []whole.Int{minusOne, multiple[n].Neg()})))
	}
	for i := range n {
		t.basis = append(t.basis, held)
		t.directions = append(t.directions, t.spread(term{i, one}, term{n, first[i]}))
	}
	t.basis = append(t.basis, equal)
	t.directions = append(t.directions, t.spread(term{n, minusOne}))
	t.place = t.spread(term{n, first[n].Neg()}, term{n + 1, one})
	return t
}

// spread returns the numbers of a place or a direction, of which all but some are 0.
func (t *tableau) spread(some ...term) []whole.Int {
	l := make([]whole.Int, t.variables+2)
	for _, x := range some {
		l[x.at] = x.factor
	}
	return l
}

// terms leaves out the zeros of a row.
func terms(row []whole.Int) []term {
	var l []term
	for i, x := range row {
		if x.Sign() != 0 {
			l = append(l, term{i, x})
		}
	}
	return l
}

// product returns the sum of the products of a row and some numbers.
func product(row []term, l []whole.Int) whole.Int {
	var sum whole.Int
	for _, x := range row {
		sum = sum.Add(x.factor.Mul(l[x.at]))
	}
	return sum
}

// excess returns the excess as an objective.
func (t *tableau) excess() []term { return []term{{t.variables, whole.From(1)}} }

func (t *tableau) denominator() whole.Int { return t.place[t.variables+1] }

// enter goes to a feasible point, and reports whether there is one. Then row 0 is in the basis, and stays there.
func (t *tableau) enter() bool {
	for !slices.Contains(t.basis, 0) {
		if position, direction := t.choose(t.excess()); direction == nil || !t.leave(position, direction) {
			return false
		}
	}
	return true
}

// descend goes to a point of the least worth. If there is none, it returns a direction in which the worth falls without end.
func (t *tableau) descend(objective []term) (ray []whole.Int) {
	for {
		position, direction := t.choose(objective)
		if direction == nil || !t.leave(position, direction) {
			return direction
		}
	}
}

// choose returns the position in the basis of a row that keeps the objective from falling, and the direction in which that falls; there is no direction if there is no such row.
func (t *tableau) choose(objective []term) (position int, direction []whole.Int) {
	prices := make([]whole.Int, len(t.basis))
	var useful []int
	for i, row := range t.basis {
		prices[i] = product(objective, t.directions[i])
		if row > 0 && prices[i].Sign() > 0 || row == held && prices[i].Sign() != 0 {
			useful = append(useful, i)
		}
	}
	if len(useful) == 0 {
		return 0, nil
	}
	position = slices.MaxFunc(useful, func(i, j int) int { return whole.Compare(prices[i].Abs(), prices[j].Abs()) })
	direction = slices.Clone(t.directions[position])
	if prices[position].Sign() > 0 {
		for i, x := range direction {
			direction[i] = x.Neg()
		}
	}
	return position, direction
}

// leave goes from a row of the basis in a direction up to the next row, and reports whether there is one.
func (t *tableau) leave(position int, direction []whole.Int) bool {
	var obstacles []obstacle
	for i, row := range t.rows {
		if rate := product(row, direction); rate.Sign() > 0 {
			obstacles = append(obstacles, obstacle{i, rate, product(row, t.place).Neg()})
		}
	}
	if len(obstacles) == 0 {
		return false
	}
	next := slices.MinFunc(obstacles, t.compare)
	t.exchange(position, next, direction)
	return true
}

// compare tells which obstacle is met first. If both are met at once, it is as if all bounds had been raised a little, and each one by far less than the next one. Then no two are met at once, the objective falls with each step, and the steps come to an end.
func (t *tableau) compare(a, b obstacle) int {
	order := whole.Compare(a.slack.Mul(b.rate), b.slack.Mul(a.rate))
	for row := len(t.rows) - 1; row > 0 && order == 0; row-- {
		order = whole.Compare(t.growth(a, row).Mul(b.rate), t.growth(b, row).Mul(a.rate))
	}
	return order
}

// growth returns how fast the slack of an obstacle grows if the bound of a row is raised.
func (t *tableau) growth(o obstacle, row int) whole.Int {
	if row == o.row {
		return t.denominator()
	}
	if position := slices.Index(t.basis, row); position >= 0 {
		return product(t.rows[o.row], t.directions[position]).Neg()
	}
	return whole.Int{}
}

// exchange takes a row into the basis, with the direction in which it is approached. The place and the other directions are changed along it until the row holds with equality; as all of their numbers are determinants of parts of the rows, they can be divided by the denominator before.
func (t *tableau) exchange(position int, next obstacle, direction []whole.Int) {
	before := t.denominator()
	change := func(l []whole.Int) {
		times := product(t.rows[next.row], l)
		for i, x := range l {
			l[i] = x.Mul(next.rate).Sub(direction[i].Mul(times)).Over(before)
		}
	}
	change(t.place)
	for i, l := range t.directions {
		if i != position {
			change(l)
		}
	}
	t.directions[position] = direction
	t.basis[position] = next.row
}

// point returns the values of the variables.
func (t *tableau) point() []api.Rational {
	point := make([]api.Rational, t.variables)
	for i := range point {
		point[i] = whole.Ratio(t.place[i], t.denominator())
	}
	return point
}

// dual returns the multipliers that prove that an objective, divided by a factor, cannot fall.
func (t *tableau) dual(objective []term, factor api.Rational) []api.Rational {
	l := slices.Repeat([]api.Rational{"0"}, len(t.factors))
	for i, row := range t.basis {
		if row > 0 {
			price := whole.Ratio(product(objective, t.directions[i]).Neg(), t.denominator())
			l[row-1], _ = rational.Div(rational.Mul(price, t.factors[row-1]), factor)
		}
	}
	return l
}
