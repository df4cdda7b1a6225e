package stereonet_test

import (
	"math/rand"
	"slices"
	"strings"
	"testing"

	"klippe/api"
	"klippe/stereonet"
)

func TestPicture(t *testing.T) {
	for _, c := range []struct {
		n     stereonet.Net
		poles []api.Vector
		want  string
	}{
		{net(angle, 1), list("0 0 -1, 0 0 -1"), " . /.2./ . "},
		{net(area, 1), nil, " . /.../ . "},
		{net(area, 2), nil, "  .  / ... /...../ ... /  .  "},
		{net(angle, 2), list("1 0 0, 0 1 0, 0 1/2 0, 0 0 5"), "  2  / ... /..1.1/ ... /  .  "},
		{net(angle, 2), list("-1 0 0, 0 -1 0"), "  .  / ... /1..../ ... /  1  "},
		// Both pixels are outside of the circle.
		{net(area, 1), list("1 1 0, -1 -1 0"), " .1/.../1. "},
		{net(angle, 1), slices.Repeat(list("1 1 0"), 9), " .9/.../ . "},
		{net(angle, 1), slices.Repeat(list("1 1 0"), 10), " .*/.../ . "},
		{net(angle, 1), slices.Repeat(list("0 0 1"), 11), " . /.*./ . "},
		{net(area, 1), slices.Repeat(list("0 0 1"), 400), " . /.*./ . "},
		{net(angle, 3), nil, "   .   / ..... / ..... /......./ ..... / ..... /   .   "},
		// It rounds upward to the east and to the north.
		{net(angle, 3), list("4 0 -3, -4 0 -3, 0 4 -3, 0 4 3"), "   .   / ..1.. / ..... /..1..1./ ..1.. / ..... /   .   "},
	} {
		if got, e := stereonet.Picture(c.n, c.poles); strings.Join(got, "/") != c.want || e != api.OK {
			t.Errorf("Picture(%v, %v) = %q, %d", c.n, c.poles, got, e)
		}
	}
}

func TestPictureErrors(t *testing.T) {
	full := slices.Repeat(list("1 0 0"), stereonet.MaxPoles)
	many := append(slices.Clone(full), of("0 0 0"))
	for _, c := range []struct {
		n     stereonet.Net
		poles []api.Vector
		e     api.Errno
	}{
		{net(angle, 30), full, api.OK},
		{net(angle, 31), nil, api.ErrLimit},
		{net(area, 1000), list("0 0 0"), api.ErrLimit},
		{net(area, 1001), list("0 0 0"), api.ErrRange},
		{net(3, 31), many, api.ErrKind},
		{net(area, 30), many, api.ErrLimit},
		{net(area, 0), many, api.ErrRange},
		{net(area, 30), append(slices.Clone(many), of("0 x 0")), api.ErrNumber},
		{net(area, 30), list("1 0 0, 0 0 0"), api.ErrZero},
	} {
		if got, e := stereonet.Picture(c.n, c.poles); e != c.e || (len(got) == 0) != (e != api.OK) {
			t.Errorf("Picture(%v, %d poles) = %q, %d", c.n, len(c.poles), got, e)
		}
	}
}

// TestPictureLaws compares with the pixels of any poles.
func TestPictureLaws(t *testing.T) {
	r := rand.New(rand.NewSource(4))
	for range 200 {
		n := net(1+r.Intn(2), 1+r.Intn(4))
		if r.Intn(3) == 0 {
			n.Radius = 1 + r.Intn(30)
		}
		var poles []api.Vector
		for range r.Intn(120) {
			poles = append(poles, anyDirection(r))
		}
		before := slices.Clone(poles)
		counts := map[stereonet.Dot]int{}
		for _, pole := range poles {
			at, _ := stereonet.Pixel(n, pole)
			counts[at]++
		}
		got, e := stereonet.Picture(n, poles)
		if len(got) != 2*n.Radius+1 || e != api.OK || !slices.Equal(poles, before) {
			t.Fatalf("Picture(%v, %v) = %q, %d", n, poles, got, e)
		}
		for i, line := range got {
			if want := shown(counts, n.Radius, n.Radius-i); line != want {
				t.Fatalf("Picture(%v, %v) has the line %q, not %q", n, poles, line, want)
			}
		}
	}
}

// shown returns a row of a picture.
func shown(counts map[stereonet.Dot]int, radius, row int) string {
	line := ""
	for column := -radius; column <= radius; column++ {
		count := counts[dotAt(column, row)]
		switch {
		case count > 9:
			line += "*"
		case count > 0:
			line += string(rune('0' + count))
		case column*column+row*row <= radius*radius:
			line += "."
		default:
			line += " "
		}
	}
	return line
}
