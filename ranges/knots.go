package ranges

import (
	"cmp"
	"iter"
	"slices"

	"klippe/api"
	"klippe/numbers"
	"klippe/rational"
)

// CheckKnots returns OK for a right function.
func CheckKnots(f []api.Knot) api.Errno {
	if len(f) == 0 {
		return api.ErrEmpty
	}
	if len(f) > MaxKnots {
		return api.ErrLimit
	}
	for i, k := range f {
		if e := numbers.Check(k.At, k.Value); e != api.OK {
			return e
		}
		if i > 0 && rational.Compare(k.At, f[i-1].At) <= 0 {
			return api.ErrOrder
		}
	}
	return api.OK
}

// Value returns the value of a function at a number.
func Value(f []api.Knot, x api.Rational) (api.Rational, api.Errno) {
	if e := cmp.Or(CheckKnots(f), rational.Check(x)); e != api.OK {
		return "", e
	}
	v := value(f, x)
	return numbers.Result(v, v)
}

// Segment returns the number of knots that are not beyond a number.
func Segment(f []api.Knot, x api.Rational) (int, api.Errno) {
	if e := cmp.Or(CheckKnots(f), rational.Check(x)); e != api.OK {
		return 0, e
	}
	return segmentOf(f, x), api.OK
}

// Slope returns the slope of a segment.
func Slope(f []api.Knot, segment int) (api.Rational, api.Errno) {
	if e := CheckKnots(f); e != api.OK {
		return "", e
	}
	if segment < 0 || segment > len(f) {
		return "", api.ErrRange
	}
	s := slope(f, segment)
	return numbers.Result(s, s)
}

// Add returns the sum of two functions.
func Add(f, g []api.Knot) ([]api.Knot, api.Errno) {
	if e := cmp.Or(CheckKnots(f), CheckKnots(g)); e != api.OK {
		return nil, e
	}
	places := placesOf(f, g)
	if len(places) > MaxKnots {
		return nil, api.ErrLimit
	}
	sum := make([]api.Knot, len(places))
	values := make([]api.Rational, len(places))
	for i, x := range places {
		values[i] = rational.Add(value(f, x), value(g, x))
		sum[i] = api.Knot{At: x, Value: values[i]}
	}
	return numbers.Result(sum, values...)
}

// placesOf returns the numbers at which one of two functions has a knot, in order.
func placesOf(f, g []api.Knot) []api.Rational {
	var l []api.Rational
	for _, k := range slices.Concat(f, g) {
		l = append(l, k.At)
	}
	slices.SortFunc(l, rational.Compare)
	return slices.Compact(l)
}

// Simplify returns the simplest form of a function.
func Simplify(f []api.Knot) ([]api.Knot, api.Errno) {
	if e := CheckKnots(f); e != api.OK {
		return nil, e
	}
	var simple []api.Knot
	before := slope(f, 0)
	for i, k := range f {
		after := slope(f, i+1)
		if after != before {
			simple = append(simple, k)
		}
		before = after
	}
	if len(simple) == 0 {
		return []api.Knot{f[0]}, api.OK
	}
	return simple, api.OK
}

// Integral returns the integral of a function over an interval.
func Integral(f []api.Knot, over Part) (api.Rational, api.Errno) {
	if e := cmp.Or(CheckKnots(f), checkPart(over)); e != api.OK {
		return "", e
	}
	doubled := api.Rational("0")
	for from, to := range lines(f, over) {
		width := rational.Sub(to.At, from.At)
		doubled = rational.Add(doubled, rational.Mul(width, rational.Add(from.Value, to.Value)))
	}
	integral := rational.Mul(doubled, "1/2")
	return numbers.Result(integral, integral)
}

// Above returns where in a window a function is at least some height.
func Above(f []api.Knot, height api.Rational, window Part) ([]Part, api.Errno) {
	if e := cmp.Or(CheckKnots(f), rational.Check(height), checkPart(window)); e != api.OK {
		return nil, e
	}
	var u []Part
	for from, to := range lines(f, window) {
		if p, is := aboveLine(from, to, height); is {
			u = extend(u, p)
		}
	}
	return numbers.Result(u, endsOf(u)...)
}

// aboveLine returns where between two knots the line through them is at least some height, if there is more than one such place.
func aboveLine(from, to api.Knot, height api.Rational) (part Part, is bool) {
	first, last := rational.Compare(from.Value, height), rational.Compare(to.Value, height)
	switch {
	case first >= 0 && last >= 0:
		return Part{from.At, to.At}, true
	case first > 0:
		return Part{from.At, crossing(from, to, height)}, true
	case last > 0:
		return Part{crossing(from, to, height), to.At}, true
	}
	return Part{}, false
}

// crossing returns where between two knots with different values the line through them has some height.
func crossing(from, to api.Knot, height api.Rational) api.Rational {
	way := rational.Mul(rational.Sub(height, from.Value), rational.Sub(to.At, from.At))
	return rational.Add(from.At, over(way, rational.Sub(to.Value, from.Value)))
}

// lines yields the parts of a window in which a function is linear, as pairs of knots at their ends.
func lines(f []api.Knot, window Part) iter.Seq2[api.Knot, api.Knot] {
	return func(yield func(from, to api.Knot) bool) {
		first, end := segmentOf(f, window.Low), segmentOf(f, window.High)
		from := api.Knot{At: window.Low, Value: value(f, window.Low)}
		for _, k := range f[first:end] {
			if k.At == window.High {
				break
			}
			if !yield(from, k) {
				return
			}
			from = k
		}
		yield(from, api.Knot{At: window.High, Value: value(f, window.High)})
	}
}

// value returns the value of a right function.
func value(f []api.Knot, x api.Rational) api.Rational {
	segment := segmentOf(f, x)
	if segment == 0 {
		return f[0].Value
	}
	last := f[segment-1]
	return rational.Add(last.Value, rational.Mul(slope(f, segment), rational.Sub(x, last.At)))
}

// segmentOf returns the number of knots of a right function that are not beyond a number.
func segmentOf(f []api.Knot, x api.Rational) int {
	i, found := slices.BinarySearchFunc(f, x, func(k api.Knot, x api.Rational) int { return rational.Compare(k.At, x) })
	if found {
		return i + 1
	}
	return i
}

// slope returns the slope of a segment that a right function has.
func slope(f []api.Knot, segment int) api.Rational {
	if segment == 0 || segment == len(f) {
		return "0"
	}
	from, to := f[segment-1], f[segment]
	return over(rational.Sub(to.Value, from.Value), rational.Sub(to.At, from.At))
}

// over returns a quotient; the divisor is never 0.
func over(a, b api.Rational) api.Rational {
	q, _ := rational.Div(a, b)
	return q
}
