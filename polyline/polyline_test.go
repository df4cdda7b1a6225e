package polyline_test

import (
	"math/rand"
	"slices"
	"testing"

	"klippe/api"
	"klippe/polyline"
	"klippe/rational"
	"klippe/samples"
	"klippe/vector"
)

var (
	most     = samples.Most()
	notRight = samples.NotRight()
)

func points(s string) []api.Point     { return samples.Points(s) }
func point(s string) api.Point        { return samples.Point(s) }
func ratio(num, den int) api.Rational { x, _ := rational.Of(num, den); return x }

// bow returns a chain, and a ring, on a parabola.
func bow(n int) []api.Point {
	var l []api.Point
	for i := range n {
		l = append(l, vector.At(i, i*i))
	}
	return l
}

func reversed(c []api.Point) []api.Point {
	l := slices.Clone(c)
	slices.Reverse(l)
	return l
}

func turned(c []api.Point, n int) []api.Point { return slices.Concat(c[n:], c[:n]) }

// anyPoints makes points with small numbers, many of them on one line, or equal.
func anyPoints(r *rand.Rand, n int) []api.Point {
	l := make([]api.Point, n)
	for i := range l {
		l[i] = api.Point{X: ratio(r.Intn(7)-3, 1+r.Intn(2)*r.Intn(3)), Y: ratio(r.Intn(7)-3, 1+r.Intn(2)*r.Intn(3))}
	}
	return l
}

// anyChain makes a chain of points that are tried one after another.
func anyChain(r *rand.Rand, tries int) []api.Point {
	for {
		c := anyPoints(r, 2)
		for _, p := range anyPoints(r, tries) {
			if longer := append(slices.Clone(c), p); polyline.Check(longer) == api.OK {
				c = longer
			}
		}
		if polyline.Check(c) == api.OK {
			return c
		}
	}
}

// anyRing makes a triangle into which points are put that are tried one after another.
func anyRing(r *rand.Rand, tries int) []api.Point {
	for {
		c := anyPoints(r, 3)
		if polyline.Ring(c) != api.OK {
			continue
		}
		for _, p := range anyPoints(r, tries) {
			if more := slices.Insert(slices.Clone(c), r.Intn(len(c)+1), p); polyline.Ring(more) == api.OK {
				c = more
			}
		}
		return c
	}
}

func TestCheck(t *testing.T) {
	for _, c := range []struct {
		c           []api.Point
		chain, ring api.Errno
	}{
		{points("0 0 2 0 2 2"), api.OK, api.OK}, {points("0 0 1 0"), api.OK, api.ErrSize}, {points("0 0 1/3 -1/2 7 5 -2 9/4"), api.OK, api.OK}, {bow(400), api.OK, api.OK}, {[]api.Point{{X: most, Y: "0"}, point("0 0"), {X: "0", Y: "1/" + most}}, api.OK, api.OK},
		{nil, api.ErrSize, api.ErrSize}, {[]api.Point{}, api.ErrSize, api.ErrSize}, {points("0 0"), api.ErrSize, api.ErrSize}, {[]api.Point{{}}, api.ErrSize, api.ErrSize}, {make([]api.Point, 2), api.ErrNumber, api.ErrSize},
		{bow(401), api.ErrLimit, api.ErrLimit}, {make([]api.Point, 401), api.ErrLimit, api.ErrLimit}, {make([]api.Point, 400), api.ErrNumber, api.ErrNumber},
		// Neighbours that are equal, of the ring also the last point and the first one.
		{points("0 0 0 0"), api.ErrZero, api.ErrSize}, {points("0 0 0 0 1 0"), api.ErrZero, api.ErrZero}, {points("0 0 1 0 1 0"), api.ErrZero, api.ErrZero}, {points("1 1 0 0 0 0 1 0"), api.ErrZero, api.ErrZero}, {points("0 0 1 0 1 1 0 0"), api.ErrCross, api.ErrZero}, {points("0 0 0 0 x 0"), api.ErrZero, api.ErrZero}, {points("0 0 x 0 x 0"), api.ErrNumber, api.ErrNumber}, {points("0 0 x 0 0 0"), api.ErrNumber, api.ErrZero}, {points("x 0 1 0 x 0"), api.ErrNumber, api.ErrNumber}, {points("0 0 1 0 1 0 x 0"), api.ErrZero, api.ErrZero},
		// On one line: further, back, and back to the beginning.
		{points("0 0 1 0 2 0"), api.OK, api.ErrCross}, {points("0 0 2 0 1 0"), api.ErrCross, api.ErrCross}, {points("0 0 1 0 0 0"), api.ErrCross, api.ErrZero}, {points("0 0 1 0 -1 0"), api.ErrCross, api.ErrCross}, {points("0 0 1 0 2 0 2 1"), api.OK, api.OK}, {points("0 0 2 0 1 0 2 1"), api.ErrCross, api.ErrCross},
		// Segments that cross, touch, or overlap.
		{points("0 0 2 2 2 0 0 2"), api.ErrCross, api.ErrCross}, {points("0 0 2 0 1 1 1 0"), api.ErrCross, api.ErrCross}, {points("0 0 2 0 1 1 1 -1"), api.ErrCross, api.ErrCross}, {points("1 0 1 1 0 1 0 0 2 0"), api.ErrCross, api.ErrCross}, {points("0 0 4 0 4 1 3 0 1 0 0 1"), api.ErrCross, api.ErrCross}, {points("0 0 4 0 4 1 1 1 1 0"), api.ErrCross, api.ErrCross}, {points("0 0 1 0 1 1 0 1 0 0 -1 0"), api.ErrCross, api.ErrCross},
		// Only the last side of the ring meets another one.
		{points("0 0 2 0 2 2 1 -1"), api.ErrCross, api.ErrCross}, {points("0 0 2 0 2 2 1 1/2 -1 1 3 -1"), api.ErrCross, api.ErrCross}, {points("0 0 4 0 4 4 2 0"), api.ErrCross, api.ErrCross}, {points("0 0 4 0 2 2 2 1 1 -1"), api.ErrCross, api.ErrCross}, {points("0 0 4 2 4 4 3 3 0 4 5 0"), api.ErrCross, api.ErrCross}, {points("0 0 0 4 4 4 4 -1 2 2 2 -2"), api.OK, api.OK}, {points("0 0 4 4 5 0 3 0 1 3"), api.ErrCross, api.ErrCross}, {points("0 0 1 2 2 0 3 2 3 -1 1 1 1/2 2"), api.ErrCross, api.ErrCross}, {points("0 0 4 0 4 3 1 3 1 2 3 2 3 1 2 1"), api.OK, api.OK}, {points("0 0 4 0 4 3 1 3 1 2 3 2 3 -1/2"), api.ErrCross, api.ErrCross}, {points("0 0 1 0 2 1 3 0 3 2 0 2 3 3"), api.OK, api.ErrCross}, {points("0 0 2 -1 3 0 2 2 3 3 -1 2 -1 -2 5 -1"), api.OK, api.ErrCross}, {points("0 0 2 0 2 2 1 0"), api.ErrCross, api.ErrCross}, {points("1 0 2 0 2 2 0 2 -1 0"), api.OK, api.OK}, {points("0 0 2 0 2 2 0 2 0 1 1 1 1 1/2 -1 1/2 -1 3"), api.OK, api.ErrCross}, {points("0 0 2 0 2 2 -1 2 -1 0"), api.OK, api.OK}, {points("0 0 2 0 2 2 3 2 3 0"), api.OK, api.ErrCross},
	} {
		if e := polyline.Check(c.c); e != c.chain {
			t.Errorf("Check(%v) = %d, not %d", c.c, e, c.chain)
		}
		if e := polyline.Ring(c.c); e != c.ring {
			t.Errorf("Ring(%v) = %d, not %d", c.c, e, c.ring)
		}
	}
	for _, x := range notRight {
		for i := range 3 {
			for _, bad := range []api.Point{{X: x, Y: "0"}, {X: "0", Y: x}} {
				c := points("0 0 2 0 2 2")
				c[i] = bad
				if e1, e2 := polyline.Check(c), polyline.Ring(c); e1 != api.ErrNumber || e2 != api.ErrNumber {
					t.Errorf("Check(%v) = %d, Ring = %d", c, e1, e2)
				}
			}
		}
	}
}

// meet tells what two segments have in common: no place, one, or more.
func meet(a, b, c, d api.Point) (places int, at api.Point) {
	l, _ := vector.Through(a, b)
	m, _ := vector.Through(c, d)
	if p, found, _ := vector.Meet(l, m); found {
		first, _ := vector.Between(a, b, p)
		second, _ := vector.Between(c, d, p)
		if first && second {
			return 1, p
		}
		return 0, at
	}
	ends := map[api.Point]bool{}
	for _, s := range [][3]api.Point{{a, b, c}, {a, b, d}, {c, d, a}, {c, d, b}} {
		if is, _ := vector.Between(s[0], s[1], s[2]); is {
			ends[s[2]], at = true, s[2]
		}
	}
	return len(ends), at
}

// errorOf finds the error of right points as the chapter says it.
func errorOf(c []api.Point, isRing bool) api.Errno {
	around := c
	if isRing {
		around = append(slices.Clone(c), c[0])
	}
	n := len(around) - 1
	for i := range n {
		if around[i] == around[i+1] {
			return api.ErrZero
		}
	}
	for i := range n {
		for j := range i {
			joint, isNeighbour := around[i], j == i-1
			if isRing && j == 0 && i == n-1 {
				joint, isNeighbour = c[0], true
			}
			places, at := meet(around[i], around[i+1], around[j], around[j+1])
			if places > 1 || places == 1 && (!isNeighbour || at != joint) {
				return api.ErrCross
			}
		}
	}
	return api.OK
}

func TestCheckLaws(t *testing.T) {
	r := rand.New(rand.NewSource(1))
	counts := map[api.Errno]int{}
	for range 8000 {
		c := anyPoints(r, 3+r.Intn(4))
		if r.Intn(2) == 0 {
			c = anyRing(r, r.Intn(4))
		}
		if e, want := polyline.Check(c), errorOf(c, false); e != want {
			t.Fatalf("Check(%v) = %d, not %d", c, e, want)
		}
		e, want := polyline.Ring(c), errorOf(c, true)
		if e != want || polyline.Ring(reversed(c)) != want || polyline.Ring(turned(c, 1)) != want {
			t.Fatalf("Ring(%v) = %d, not %d", c, e, want)
		}
		counts[e]++
	}
	if counts[api.OK] < 1000 || counts[api.ErrCross] < 1000 || counts[api.ErrZero] < 100 {
		t.Errorf("the errors are %v", counts)
	}
}

// spiral returns a long chain that winds around itself; all boxes of its inner segments are within those of the outer ones.
func spiral(n int) []api.Point {
	var l []api.Point
	for i := range n {
		k := i + 1
		switch i % 4 {
		case 0:
			l = append(l, vector.At(-k, -k))
		case 1:
			l = append(l, vector.At(k, -k))
		case 2:
			l = append(l, vector.At(k, k))
		case 3:
			l = append(l, vector.At(-k, k))
		}
	}
	return l
}

func TestLongChains(t *testing.T) {
	c := spiral(399)
	if e := polyline.Check(c); e != api.OK {
		t.Errorf("Check of a spiral: %d", e)
	}
	last := c[len(c)-1]
	for _, p := range []string{"0 0", "-1 -1", "0 -1", "-3 200", "7 300"} {
		if e := polyline.Check(append(slices.Clone(c), point(p))); e != api.ErrCross {
			t.Errorf("Check of a spiral from %v to %s: %d", last, p, e)
		}
	}
	if e := polyline.Check(append(slices.Clone(c), point("500 500"))); e != api.OK {
		t.Errorf("Check of a longer spiral: %d", e)
	}
}
