package matrix

import (
	"iter"
	"slices"

	"klippe/api"
	"klippe/rational"
	"klippe/whole"
)

// echelon has the rows of a reduced form, multiplied by one integer, common: so all elements are integers, and no fractions are reduced on the way.
type echelon struct {
	rows   [][]whole.Int
	lead   []int
	common whole.Int
	// scale is the product of the factors that made the rows of the matrix integers; exchanged rows change its sign.
	scale api.Rational
}

// reduce finds the reduced form of a matrix with rows of one length.
func reduce(m Matrix) *echelon {
	e := &echelon{common: whole.From(1), scale: "1"}
	for _, row := range m {
		multiple, factor := whole.Primitive(row...)
		e.rows = append(e.rows, multiple)
		e.scale = rational.Mul(e.scale, factor)
	}
	for j := 0; j < columnsOf(m) && len(e.lead) < len(m); j++ {
		e.lower(j)
	}
	e.rows = e.rows[:len(e.lead)]
	return e
}

// lower makes a column 0 in all rows but one, unless it is 0 already in all those without a leading element.
func (e *echelon) lower(column int) {
	top := len(e.lead)
	found := slices.IndexFunc(e.rows[top:], func(row []whole.Int) bool { return row[column].Sign() != 0 })
	if found < 0 {
		return
	}
	if found > 0 {
		e.rows[top], e.rows[top+found] = e.rows[top+found], e.rows[top]
		e.scale = rational.Neg(e.scale)
	}
	leading := e.rows[top][column]
	e.combine(top, leading, func(row []whole.Int) whole.Int { return row[column] })
	e.lead = append(e.lead, column)
	e.common = leading
}

// combine takes the top row, times a factor, off a multiple of each other row. By common it can be divided, as all elements are determinants of parts of the matrix (Bareiss's algorithm).
func (e *echelon) combine(top int, multiple whole.Int, factor func(row []whole.Int) whole.Int) {
	for i, row := range e.rows {
		if i == top {
			continue
		}
		combined := make([]whole.Int, len(row))
		times := factor(row)
		for j, x := range e.rows[top] {
			combined[j] = row[j].Mul(multiple).Sub(x.Mul(times)).Over(e.common)
		}
		e.rows[i] = combined
	}
}

// element returns an element of the reduced form.
func (e *echelon) element(i, j int) api.Rational { return whole.Ratio(e.rows[i][j], e.common) }

// free yields those of some columns that have no leading element.
func (e *echelon) free(columns int) iter.Seq[int] {
	return func(yield func(int) bool) {
		for j := range columns {
			if !slices.Contains(e.lead, j) && !yield(j) {
				return
			}
		}
	}
}

// beside returns a matrix with a further list behind each row.
func beside(m Matrix, more func(i int) []api.Rational) Matrix {
	wide := make(Matrix, len(m))
	for i, row := range m {
		wide[i] = slices.Concat(row, more(i))
	}
	return wide
}
