// Package numbers tells of several numbers at once whether they are right, or too long. The layers use it for their arguments and their results.
package numbers

import (
	"slices"
	"strings"

	"klippe/api"
	"klippe/rational"
)

// Check returns ErrNumber if one of some numbers is not right.
func Check(l ...api.Rational) api.Errno {
	for _, x := range l {
		if e := rational.Check(x); e != api.OK {
			return e
		}
	}
	return api.OK
}

// Result returns a result that contains some numbers, or the zero value and ErrLimit if one of these numbers is too long.
func Result[T any](result T, contained ...api.Rational) (T, api.Errno) {
	if slices.ContainsFunc(contained, isLong) {
		var none T
		return none, api.ErrLimit
	}
	return result, api.OK
}

// Quotient returns the quotient by a number that is not 0, as a result.
func Quotient(x, y api.Rational) (api.Rational, api.Errno) {
	quotient, _ := rational.Div(x, y)
	return Result(quotient, quotient)
}

// isLong reports whether a canonical number has a part of more than api.MaxDigits digits.
func isLong(x api.Rational) bool {
	if len(x) <= api.MaxDigits {
		return false
	}
	num, den := rational.Parts(x)
	digits := len(strings.TrimPrefix(string(num), "-"))
	return max(digits, len(den)) > api.MaxDigits
}
