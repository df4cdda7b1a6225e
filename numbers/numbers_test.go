package numbers

import (
	"strings"
	"testing"

	"klippe/api"
)

var (
	most = api.Rational(strings.Repeat("9", api.MaxDigits))
	more = most + "9"
)

func TestCheck(t *testing.T) {
	for _, c := range []struct {
		l    []api.Rational
		want api.Errno
	}{
		{nil, api.OK}, {[]api.Rational{"1", "-1/2", most, "-" + most}, api.OK},
		{[]api.Rational{"1", ""}, api.ErrNumber}, {[]api.Rational{"2/4", "1"}, api.ErrNumber}, {[]api.Rational{"0", more}, api.ErrNumber},
	} {
		if e := Check(c.l...); e != c.want {
			t.Errorf("Check(%v) = %d", c.l, e)
		}
	}
}

func TestResult(t *testing.T) {
	for _, l := range [][]api.Rational{nil, {"0"}, {"1", "-" + most, "1/" + most, "-" + most + "/7", most[1:] + "/" + most}} {
		if x, e := Result("text", l...); x != "text" || e != api.OK {
			t.Errorf("Result with %v: %q, %d", l, x, e)
		}
	}
	for _, l := range [][]api.Rational{{more}, {"1", "-" + more}, {"1/" + more, "2"}, {more + "/" + more}} {
		if x, e := Result("text", l...); x != "" || e != api.ErrLimit {
			t.Errorf("Result with %v: %q, %d", l, x, e)
		}
	}
}

func TestQuotient(t *testing.T) {
	for _, c := range []struct {
		x, y, want api.Rational
		e          api.Errno
	}{
		{"6", "-4", "-3/2", api.OK}, {"0", "5/7", "0", api.OK}, {"1/2", "1/3", "3/2", api.OK}, {most, most, "1", api.OK}, {"1", most, "1/" + most, api.OK},
		// Numbers of any length can have a quotient that is right.
		{more, more, "1", api.OK}, {most, "1/2", "", api.ErrLimit}, {"1/2", most, "", api.ErrLimit},
	} {
		if got, e := Quotient(c.x, c.y); got != c.want || e != c.e {
			t.Errorf("Quotient(%s, %s) = %s, %d", c.x, c.y, got, e)
		}
	}
}
