package fitting

import (
	"klippe/api"
	"klippe/exact"
	"klippe/whole"
)

// roughWords is the number of words that the greatest factor keeps in a rough form.
const roughWords = 4

// form has for each pair of numbers of an axis the factor of their product.
type form [3]exact.Direction

// at returns the sum of the products for an axis.
func (f form) at(axis exact.Direction) whole.Int {
	return axis.Dot(exact.Direction{f[0].Dot(axis), f[1].Dot(axis), f[2].Dot(axis)})
}

// misfits tells the total of any axis for the planes of a list: the full form, divided by the common multiple of the squared lengths of the normals, and by the squared length of the axis. So an axis is measured without going through the planes again.
type misfits struct {
	full, rough form
	multiple    whole.Int
}

func newMisfits(normals []exact.Direction) *misfits {
	squares := make([]whole.Int, len(normals))
	for i, n := range normals {
		squares[i] = n.Dot(n)
	}
	each, multiple := shares(squares)
	m := &misfits{multiple: multiple}
	for i, n := range normals {
		weighed := n.Times(each[i])
		for row := range m.full {
			m.full[row] = m.full[row].Plus(weighed.Times(n[row]))
		}
	}
	m.rough = m.full.without(max(0, m.full.words()-roughWords))
	return m
}

// words returns the number of words of the greatest factor.
func (f form) words() int {
	most := 0
	for _, row := range f {
		for _, factor := range row {
			most = max(most, factor.Words())
		}
	}
	return most
}

// without leaves out some of the lowest words of all factors.
func (f form) without(lowest int) form {
	for row := range f {
		for column := range f[row] {
			f[row][column] = f[row][column].Without(lowest)
		}
	}
	return f
}

// total returns the total of an axis, of any length as a text.
func (m *misfits) total(axis exact.Direction) api.Rational {
	return whole.Ratio(m.full.at(axis), m.multiple.Mul(axis.Dot(axis)))
}

// compare returns the sign of the total of a less that of b.
func (m *misfits) compare(a, b exact.Direction) int {
	if a.Cross(b).IsZero() {
		return 0
	}
	// What was left out is less than 1 of each factor of the rough form, so less than 3 squared lengths of an axis at it. A difference that is greater has the right sign, and spares the full form, whose factors can be very long.
	rough, doubt := difference(m.rough, a, b), a.Dot(a).Mul(b.Dot(b)).Mul(whole.From(6))
	if whole.Compare(rough.Abs(), doubt) > 0 {
		return rough.Sign()
	}
	return difference(m.full, a, b).Sign()
}

// difference returns by how much a form would be greater at a than at b if both had the length 1, times both squared lengths.
func difference(f form, a, b exact.Direction) whole.Int {
	return f.at(a).Mul(b.Dot(b)).Sub(f.at(b).Mul(a.Dot(a)))
}
