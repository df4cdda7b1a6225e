// Package samples makes the numbers, points, vectors and meshes that the tests of the layers use; no layer imports it.
package samples

import (
	"strings"

	"klippe/api"
)

// Most returns the greatest right number.
func Most() api.Rational { return api.Rational(strings.Repeat("9", api.MaxDigits)) }

// NotRight returns numbers that are not right: empty, not canonical, or too long.
func NotRight() []api.Rational {
	long := Most() + "9"
	return []api.Rational{"", "-", "1/1", "2/4", "0/3", "1/-2", "+1", "-0", "01", "a", "1/0", "1.5", long, "1/" + long}
}

// Numbers reads a list of numbers.
func Numbers(s string) []api.Rational { return fields(s, 0) }

// Rows reads lists of numbers, which are separated by commas.
func Rows(s string) [][]api.Rational {
	var l [][]api.Rational
	for row := range strings.SplitSeq(s, ",") {
		l = append(l, Numbers(row))
	}
	return l
}

// Vector reads three numbers.
func Vector(s string) api.Vector {
	n := fields(s, 3)
	return api.Vector{X: n[0], Y: n[1], Z: n[2]}
}

// Point reads two numbers.
func Point(s string) api.Point {
	n := fields(s, 2)
	return api.Point{X: n[0], Y: n[1]}
}

// Points reads two numbers for each point.
func Points(s string) []api.Point {
	n := fields(s, 0)
	l := make([]api.Point, len(n)/2)
	for i := range l {
		l[i] = api.Point{X: n[2*i], Y: n[2*i+1]}
	}
	return l
}

// fields returns the numbers of a text, at least some of them.
func fields(s string, least int) []api.Rational {
	var l []api.Rational
	for _, word := range strings.Fields(s) {
		l = append(l, api.Rational(word))
	}
	return append(l, make([]api.Rational, max(0, least-len(l)))...)
}
