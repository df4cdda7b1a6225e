package solid

import (
	"math/rand"
	"slices"
	"strings"
	"testing"

	"klippe/api"
	"klippe/rational"
	"klippe/samples"
	"klippe/vector"
)

var (
	most     = samples.Most()
	notRight = samples.NotRight()
	zero     = vector.Of(0, 0, 0)
)

func v(s string) api.Vector { return samples.Vector(s) }

// planeOf reads a normal and an offset.
func planeOf(s string) api.Plane {
	n := samples.Numbers(s)
	return api.Plane{Normal: api.Vector{X: n[0], Y: n[1], Z: n[2]}, Offset: n[3]}
}

// planes reads some planes, which are separated by commas.
func planes(s string) []api.Plane {
	var l []api.Plane
	for part := range strings.SplitSeq(s, ",") {
		l = append(l, planeOf(part))
	}
	return l
}

func vectors(s string) []api.Vector {
	var l []api.Vector
	for part := range strings.SplitSeq(s, ",") {
		l = append(l, v(part))
	}
	return l
}

// box is the box of the chapter's examples, written out.
func box() Solid {
	return Solid{
		Planes:   planes("-1 0 0 0, 0 -1 0 0, 0 0 -1 0, 0 0 1 3, 0 1 0 2, 1 0 0 1"),
		Vertices: vectors("0 0 0, 0 0 3, 0 2 0, 0 2 3, 1 0 0, 1 0 3, 1 2 0, 1 2 3"),
		Faces:    [][]int{{0, 1, 3, 2}, {0, 4, 5, 1}, {0, 2, 6, 4}, {1, 5, 7, 3}, {2, 3, 7, 6}, {4, 6, 7, 5}},
	}
}

// pyramid has the corners 0 0 0, 1 0 0, 0 1 0 and 0 0 1.
func pyramid() Solid {
	return Solid{
		Planes:   planes("-1 0 0 0, 0 -1 0 0, 0 0 -1 0, 1 1 1 1"),
		Vertices: vectors("0 0 0, 0 0 1, 0 1 0, 1 0 0"),
		Faces:    [][]int{{0, 1, 2}, {0, 3, 1}, {0, 2, 3}, {1, 3, 2}},
	}
}

func isEmpty(s Solid) bool { return s.Planes == nil && s.Vertices == nil && s.Faces == nil }

// anyPlanes makes planes with small numbers, many of them with the same corners, or in vain.
func anyPlanes(r *rand.Rand, n int) []api.Plane {
	var l []api.Plane
	for len(l) < n {
		offset, _ := rational.Of(r.Intn(9)-1, 1+r.Intn(2))
		p := api.Plane{Normal: vector.Of(r.Intn(5)-2, r.Intn(5)-2, r.Intn(5)-2), Offset: offset}
		if r.Intn(4) == 0 {
			p.Normal, _ = vector.Scale(p.Normal, "3/2")
		}
		if p.Normal != zero {
			l = append(l, p)
		}
	}
	return l
}

// anySolid makes a solid of random planes, some of them in a box.
func anySolid(r *rand.Rand) Solid {
	for {
		l := anyPlanes(r, 2+r.Intn(8))
		if r.Intn(2) == 0 {
			l = append(l, box().Planes...)
		}
		if s, e := Of(l); e == api.OK {
			return s
		}
	}
}

func TestOf(t *testing.T) {
	for _, c := range []struct {
		planes string
		want   Solid
	}{
		{"-1 0 0 0, 0 -1 0 0, 0 0 -1 0, 0 0 1 3, 0 1 0 2, 1 0 0 1", box()},
		// In another order, with multiples, and with planes in vain: outside, at a side, and at a corner.
		{"2/3 0 0 2/3, 0 0 -1/2 0, 0 0 5 15, 0 -3 0 0, 0 1/7 0 2/7, -4 0 0 0", box()},
		{"1 0 0 5, -1 0 0 0, 1 1 0 3, 0 -1 0 0, 0 0 -1 0, 0 0 1 3, 1 1 1 6, 0 1 0 2, 1 0 0 1, 2 0 0 3, 1 1 1 7, 3 0 0 3", box()},
		{"1 1 1 1, -1 0 0 0, 0 0 -1 0, 0 -1 0 0", pyramid()}, {"-1 0 0 0, 0 -1 0 0, 0 0 -1 0, 1/6 1/6 1/6 1/6, 1 0 0 1, 1 1 0 1", pyramid()},
	} {
		l := planes(c.planes)
		s, e := Of(l)
		if !Equal(s, c.want) || e != api.OK || !slices.Equal(l, planes(c.planes)) {
			t.Errorf("Of(%s) = %v, %d", c.planes, s, e)
		}
	}
}

func TestOfErrors(t *testing.T) {
	check := func(l []api.Plane, want api.Errno) {
		t.Helper()
		if s, e := Of(l); !isEmpty(s) || e != want {
			t.Errorf("Of(%v) = %v, %d, not %d", l, s, e, want)
		}
	}
	check(nil, api.ErrUnbounded)
	for _, s := range []string{"1 0 0 1", "1 0 0 1, -1 0 0 1", "1 0 0 1, -1 0 0 1, 0 1 0 1, 0 -1 0 1", "-1 0 0 0, 0 -1 0 0, 0 0 -1 0", "-1 0 0 0, 0 -1 0 0, 0 0 -1 0, 1 1 0 1", "1 0 0 0, 0 1 0 0, 0 0 1 0, 1 1 1 1, 1 2 3 4", "1 0 0 1, 0 1 0 1, -1 -1 0 1", "1 2 3 4, -1 -2 -3 -9", "1 0 0 1, -1 0 0 -2, 0 1 0 1"} {
		check(planes(s), api.ErrUnbounded)
	}
	for _, s := range []string{"-1 0 0 0, 0 -1 0 0, 0 0 -1 0, 1 1 1 0", "-1 0 0 0, 0 -1 0 0, 0 0 -1 0, 1 1 1 -1", "-1 0 0 0, 0 -1 0 0, 0 0 -1 0, 0 0 1 3, 0 1 0 2, 1 0 0 0", "-1 0 0 0, 0 -1 0 0, 0 0 -1 0, 0 0 1 3, 0 1 0 2, 1 0 0 1, 1 1 1 0", "-1 0 0 0, 0 -1 0 0, 0 0 -1 0, 0 0 1 3, 0 1 0 2, 1 0 0 1, -1 -1 0 -3", "-1 0 0 0, 0 -1 0 0, 0 0 -1 0, 0 0 1 3, 0 1 0 2, 1 0 0 1, 0 -1 -2 -8", "1 0 0 0, -1 0 0 0, 0 1 0 1, 0 -1 0 1, 0 0 1 1, 0 0 -1 1", "1 0 0 0, -1 0 0 0, 0 1 0 0, 0 -1 0 0, 0 0 1 0, 0 0 -1 0"} {
		check(planes(s), api.ErrEmpty)
	}
	check(planes("1 0 0 1, 0 0 0 1"), api.ErrZero)
	check(slices.Repeat(planes("0 0 0 1"), 41), api.ErrLimit)
	check(slices.Repeat(planes("1 0 0 1"), 41), api.ErrLimit)
	check(slices.Repeat(planes("1 0 0 1"), 40), api.ErrUnbounded)
	for _, x := range notRight {
		for _, p := range []api.Plane{{Normal: api.Vector{X: x, Y: "0", Z: "0"}, Offset: "0"}, {Normal: api.Vector{X: "0", Y: x, Z: "0"}, Offset: "0"}, {Normal: api.Vector{X: "0", Y: "0", Z: x}, Offset: "0"}, {Normal: zero, Offset: x}} {
			check([]api.Plane{p}, api.ErrNumber)
			check(append(slices.Repeat(planes("0 0 0 1"), 41), p), api.ErrNumber)
		}
	}
	// The corner, the normal, or the offset is too long; a plane in vain may be so.
	p := pyramid().Planes
	far := func(x, y, z, offset api.Rational) []api.Plane {
		return append(slices.Clone(p), api.Plane{Normal: api.Vector{X: x, Y: y, Z: z}, Offset: offset})
	}
	check(far(most, "0", "0", "1/7"), api.ErrLimit)
	check(far("1/"+most, "-1/7", "0", "0"), api.ErrLimit)
	check(far("-1", "-1", "1/"+most, "-1/7"), api.ErrLimit)
	for _, l := range [][]api.Plane{far("1/"+most, "1/11", "1/7", "5"), far("-"+most, "0", "0", "0"), far("1", "1", "1", most)} {
		if s, e := Of(l); !Equal(s, pyramid()) || e != api.OK {
			t.Errorf("Of(%v) = %v, %d", l, s, e)
		}
	}
	if s, e := Of(far("1/"+most, "-1/"+most, "0", "0")); e != api.OK || !slices.Contains(s.Planes, planeOf("1 -1 0 0")) {
		t.Errorf("Of = %v, %d", s, e)
	}
}

// turnedAround exchanges the coordinates of normals in a circle, some times.
func turnedAround(l []api.Plane, times int) []api.Plane {
	l = slices.Clone(l)
	for range times {
		for i, p := range l {
			l[i].Normal = api.Vector{X: p.Normal.Y, Y: p.Normal.Z, Z: p.Normal.X}
		}
	}
	return l
}

// TestOfLimits has solids with one long number: a coordinate of a corner, or of a normal.
func TestOfLimits(t *testing.T) {
	corner := append(planes("-1 0 0 0, 0 -1 0 0, 0 0 -1 0, 0 0 1 1, 0 1 0 1/7"), api.Plane{Normal: api.Vector{X: most, Y: "1", Z: "0"}, Offset: "1"})
	normal := append(planes("-1 0 0 0, 0 -1 0 0, 0 0 -1 0"), api.Plane{Normal: api.Vector{X: most, Y: "1/7", Z: "1/7"}, Offset: "1"})
	for i, l := range [][]api.Plane{corner, normal} {
		short := slices.Clone(l)
		short[len(l)-1].Normal.X = "999"
		for times := range 3 {
			if s, e := Of(turnedAround(l, times)); !isEmpty(s) || e != api.ErrLimit {
				t.Errorf("%d: Of = %v, %d", i, s, e)
			}
			if s, e := Of(turnedAround(short, times)); Check(s) != api.OK || e != api.OK {
				t.Errorf("%d: Of = %v, %d", i, s, e)
			}
		}
	}
}

// meet returns the place of three planes, if there is exactly one, by Cramer's rule.
func meet(p, q, r api.Plane) (api.Vector, bool) {
	mul := func(a, b, c api.Rational) api.Rational { return rational.Mul(a, rational.Mul(b, c)) }
	determinant := func(a, b, c api.Vector) api.Rational {
		plus := rational.Sum(mul(a.X, b.Y, c.Z), mul(a.Y, b.Z, c.X), mul(a.Z, b.X, c.Y))
		return rational.Sub(plus, rational.Sum(mul(a.X, b.Z, c.Y), mul(a.Y, b.X, c.Z), mul(a.Z, b.Y, c.X)))
	}
	all := determinant(p.Normal, q.Normal, r.Normal)
	if all == "0" {
		return zero, false
	}
	part := func(replaced func(p api.Plane) api.Vector) api.Rational {
		x, _ := rational.Div(determinant(replaced(p), replaced(q), replaced(r)), all)
		return x
	}
	return api.Vector{
		X: part(func(p api.Plane) api.Vector { return api.Vector{X: p.Offset, Y: p.Normal.Y, Z: p.Normal.Z} }),
		Y: part(func(p api.Plane) api.Vector { return api.Vector{X: p.Normal.X, Y: p.Offset, Z: p.Normal.Z} }),
		Z: part(func(p api.Plane) api.Vector { return api.Vector{X: p.Normal.X, Y: p.Normal.Y, Z: p.Offset} }),
	}, true
}

// isOut reports whether a place is on the outer side of a plane.
func isOut(l []api.Plane, at api.Vector) bool {
	return slices.ContainsFunc(l, func(p api.Plane) bool {
		side, _ := vector.Side(p, at)
		return side > 0
	})
}

func compare(a, b api.Vector) int {
	for _, pair := range [][2]api.Rational{{a.X, b.X}, {a.Y, b.Y}, {a.Z, b.Z}} {
		if n := rational.Compare(pair[0], pair[1]); n != 0 {
			return n
		}
	}
	return 0
}

// cornersOf tries all triples of planes.
func cornersOf(l []api.Plane) []api.Vector {
	var found []api.Vector
	for i := range l {
		for j := range i {
			for k := range j {
				if at, is := meet(l[i], l[j], l[k]); is && !isOut(l, at) {
					found = append(found, at)
				}
			}
		}
	}
	slices.SortFunc(found, compare)
	return slices.Compact(found)
}

// escapesFrom moves all planes to the distance of 1 of 0, and asks whether their solid leads out of a great box. The corners of small numbers are all near.
func escapesFrom(l []api.Plane) bool {
	moved := planes("1 0 0 1000, -1 0 0 1000, 0 1 0 1000, 0 -1 0 1000, 0 0 1 1000, 0 0 -1 1000")
	for _, p := range l {
		moved = append(moved, api.Plane{Normal: p.Normal, Offset: "1"})
	}
	for _, at := range cornersOf(moved) {
		for _, x := range []api.Rational{at.X, at.Y, at.Z} {
			if rational.Abs(x) == "1000" {
				return true
			}
		}
	}
	return false
}

func mean(l []api.Vector) api.Vector {
	sum := zero
	for _, at := range l {
		sum, _ = vector.Add(sum, at)
	}
	share, _ := rational.Of(1, len(l))
	sum, _ = vector.Scale(sum, share)
	return sum
}

// errorOf returns the error that Of must have, by the places alone.
func errorOf(l []api.Plane, corners []api.Vector) api.Errno {
	if escapesFrom(l) {
		return api.ErrUnbounded
	}
	if len(corners) == 0 {
		return api.ErrEmpty
	}
	for _, p := range l {
		// The mean of all corners lies inside, if a place does.
		if side, _ := vector.Side(p, mean(corners)); side >= 0 {
			return api.ErrEmpty
		}
	}
	return api.OK
}

// TestOfLaws compares with all places where three planes meet.
func TestOfLaws(t *testing.T) {
	r := rand.New(rand.NewSource(1))
	count := map[api.Errno]int{}
	for range 500 {
		l := anyPlanes(r, 3+r.Intn(7))
		if r.Intn(2) == 0 {
			l = append(l, box().Planes...)
		}
		corners := cornersOf(l)
		want := errorOf(l, corners)
		s, e := Of(l)
		count[e]++
		if e != want || e != api.OK && !isEmpty(s) {
			t.Fatalf("Of(%v) = %v, %d, not %d", l, s, e, want)
		}
		if e == api.OK {
			checkData(t, l, corners, s)
		}
	}
	if len(count) != 3 || count[api.OK] < 150 {
		t.Errorf("%v", count)
	}
}

// checkData compares the data of a solid with the places where its planes meet.
func checkData(t *testing.T, l []api.Plane, corners []api.Vector, s Solid) {
	t.Helper()
	if !slices.Equal(s.Vertices, corners) {
		t.Fatalf("Of(%v) has the corners %v", l, s.Vertices)
	}
	var want []api.Plane
	for _, p := range l {
		if n := len(onPlane(p, corners)); n > 2 {
			n := primitive(p)
			if !slices.Contains(want, n) {
				want = append(want, n)
			}
		}
	}
	slices.SortFunc(want, func(p, q api.Plane) int { return compare(p.Normal, q.Normal) })
	if !slices.Equal(s.Planes, want) || len(s.Faces) != len(want) {
		t.Fatalf("Of(%v) has the planes %v", l, s.Planes)
	}
	// Each edge is a side of two faces, once in each direction.
	sides := map[[2]int]bool{}
	for i, around := range s.Faces {
		checkFace(t, s, i)
		for k, a := range around {
			side := [2]int{a, around[(k+1)%len(around)]}
			if sides[side] {
				t.Fatalf("Of(%v) has the side %v twice", l, side)
			}
			sides[side] = true
		}
	}
	for side := range sides {
		if !sides[[2]int{side[1], side[0]}] {
			t.Fatalf("Of(%v) has the side %v once", l, side)
		}
	}
	if 2*(len(s.Vertices)+len(s.Faces)) != len(sides)+4 {
		t.Fatalf("Of(%v) has %d vertices, %d faces and %d sides", l, len(s.Vertices), len(s.Faces), len(sides))
	}
	if e := Check(s); e != api.OK {
		t.Fatalf("Check(%v) = %d", s, e)
	}
	if again, e := Of(s.Planes); !Equal(again, s) || e != api.OK {
		t.Fatalf("Of(%v) = %v, %d", s.Planes, again, e)
	}
}

// primitive returns the plane with a primitive normal.
func primitive(p api.Plane) api.Plane {
	normal, _ := vector.Primitive(p.Normal)
	before, _ := vector.Dot(p.Normal, p.Normal)
	after, _ := vector.Dot(p.Normal, normal)
	factor, _ := rational.Div(after, before)
	return api.Plane{Normal: normal, Offset: rational.Mul(factor, p.Offset)}
}

// onPlane returns the indices of the places on a plane.
func onPlane(p api.Plane, l []api.Vector) []int {
	var found []int
	for i, at := range l {
		if side, _ := vector.Side(p, at); side == 0 {
			found = append(found, i)
		}
	}
	return found
}

// checkFace expects all corners on a plane, the least one first, with all others to the left of each side.
func checkFace(t *testing.T, s Solid, i int) {
	t.Helper()
	around := s.Faces[i]
	sorted := slices.Sorted(slices.Values(around))
	if !slices.Equal(sorted, onPlane(s.Planes[i], s.Vertices)) || sorted[0] != around[0] {
		t.Fatalf("the face %v of %v", around, s)
	}
	for k, a := range around {
		b := around[(k+1)%len(around)]
		for _, c := range around {
			side, _ := vector.Sub(s.Vertices[b], s.Vertices[a])
			other, _ := vector.Sub(s.Vertices[c], s.Vertices[a])
			up, _ := vector.Cross(side, other)
			if dot, _ := vector.Dot(up, s.Planes[i].Normal); c != a && c != b && rational.Sign(dot) <= 0 {
				t.Fatalf("the face %v of %v", around, s)
			}
		}
	}
}

func TestBox(t *testing.T) {
	if s, e := Box(zero, v("1 2 3")); !Equal(s, box()) || e != api.OK {
		t.Errorf("Box = %v, %d", s, e)
	}
	if s, e := Box(v("-1/2 -1 -7"), v("1/3 0 -6")); e != api.OK || Check(s) != api.OK || !slices.Equal(s.Planes, planes("-1 0 0 1/2, 0 -1 0 1, 0 0 -1 7, 0 0 1 -6, 0 1 0 0, 1 0 0 1/3")) {
		t.Errorf("Box = %v, %d", s, e)
	}
	if s, e := Box(zero, api.Vector{X: most, Y: "1/" + most, Z: "1"}); e != api.OK || len(s.Vertices) != 8 {
		t.Errorf("Box = %v, %d", s, e)
	}
	for _, c := range [][2]string{{"0 0 0", "0 1 1"}, {"0 0 0", "1 0 1"}, {"0 0 0", "1 1 0"}, {"0 0 0", "-1 1 1"}, {"0 0 0", "1 -1 1"}, {"0 0 0", "1 1 -1"}, {"5 5 5", "5 5 5"}} {
		if s, e := Box(v(c[0]), v(c[1])); !isEmpty(s) || e != api.ErrOrder {
			t.Errorf("Box(%s, %s) = %v, %d", c[0], c[1], s, e)
		}
	}
	for _, x := range notRight {
		for _, bad := range []api.Vector{{X: x, Y: "0", Z: "0"}, {X: "0", Y: x, Z: "0"}, {X: "0", Y: "0", Z: x}} {
			s, e := Box(bad, zero)
			s2, e2 := Box(zero, bad)
			if !isEmpty(s) || !isEmpty(s2) || e != api.ErrNumber || e2 != api.ErrNumber {
				t.Errorf("Box with %v = %d, %d", bad, e, e2)
			}
		}
	}
}

// heights reads three numbers.
func heights(s string) [3]api.Rational { return [3]api.Rational(samples.Numbers(s)) }

func base(s string) [3]api.Point { return [3]api.Point(samples.Points(s)) }

func TestPrism(t *testing.T) {
	for _, c := range []struct {
		base, low, high string
		faces           int
		volume          api.Rational
	}{
		{"0 0 1 0 0 1", "0 0 0", "1 1 4", 5, "1"}, {"0 0 1 0 0 1", "0 0 0", "0 0 3", 4, "1/2"}, {"0 0 1 0 0 1", "0 0 0", "0 2 3", 5, "5/6"}, {"0 0 0 1 1 0", "0 0 0", "1 4 1", 5, "1"},
		{"0 0 0 1 1 0", "1 2 -3", "1 2 3", 4, "1"}, {"-1/2 1 3 1/3 1 5", "-1 -2 -3", "1/2 1/3 1/4", 5, "425/24"}, {"0 0 4 0 0 4", "5 1 1", "5 1 7", 4, "16"}, {"0 0 4 0 0 4", "5 1 1", "5 2 7", 5, "56/3"},
	} {
		s, e := Prism(base(c.base), heights(c.low), heights(c.high))
		if volume, e2 := Volume(s); len(s.Faces) != c.faces || volume != c.volume || e != api.OK || e2 != api.OK {
			t.Errorf("Prism(%s, %s, %s) = %v, %d, with the volume %s", c.base, c.low, c.high, s, e, volume)
		}
	}
	if s, e := Prism(base("0 0 1 0 0 1"), heights("0 0 0"), heights("1 0 0")); !Equal(s, pyramid()) || e != api.OK {
		t.Errorf("Prism = %v, %d", s, e)
	}
}

func TestPrismErrors(t *testing.T) {
	check := func(b [3]api.Point, low, high [3]api.Rational, want api.Errno) {
		t.Helper()
		if s, e := Prism(b, low, high); !isEmpty(s) || e != want {
			t.Errorf("Prism(%v, %v, %v) = %v, %d, not %d", b, low, high, s, e, want)
		}
	}
	right, flat, one := base("0 0 1 0 0 1"), heights("0 0 0"), heights("1 1 1")
	for _, s := range []string{"0 0 1 1 2 2", "0 0 0 0 1 1", "1 1 1 1 1 1", "1 0 3 0 2 0"} {
		check(base(s), flat, one, api.ErrDependent)
		check(base(s), one, flat, api.ErrDependent)
	}
	for _, s := range []string{"2 0 0", "0 2 0", "0 0 2", "1/2 1/2 1000/999", "2 2 2"} {
		check(right, heights(s), one, api.ErrOrder)
	}
	check(right, one, one, api.ErrEmpty)
	check(right, heights("1 2 3"), heights("1 2 3"), api.ErrEmpty)
	for _, x := range notRight {
		for i := range 3 {
			b, b2, low, high := right, right, one, flat
			b[i].X, b2[i].Y, low[i], high[i] = x, x, x, x
			check(b, one, flat, api.ErrNumber)
			check(b2, one, flat, api.ErrNumber)
			check(base("0 0 1 1 2 2"), low, flat, api.ErrNumber)
			check(base("0 0 1 1 2 2"), one, high, api.ErrNumber)
		}
	}
	// The corners have right numbers, but the normal has not.
	if s, e := Prism(right, flat, [3]api.Rational{"1", "1", "1/" + most}); len(s.Vertices) != 6 || e != api.OK {
		t.Errorf("Prism = %v, %d", s, e)
	}
	check(right, flat, [3]api.Rational{"1/7", "1", "1/" + most}, api.ErrLimit)
}

// TestPrismLaws compares with the area of the triangle and the differences of heights.
func TestPrismLaws(t *testing.T) {
	r := rand.New(rand.NewSource(2))
	for range 300 {
		var b [3]api.Point
		var low, high [3]api.Rational
		sum := api.Rational("0")
		for i := range b {
			b[i] = vector.At(r.Intn(9), r.Intn(9))
			low[i] = rational.Whole(r.Intn(9))
			difference, _ := rational.Of(r.Intn(3)*r.Intn(9), 1+r.Intn(2))
			high[i], sum = rational.Add(low[i], difference), rational.Add(sum, difference)
		}
		area, _ := vector.Area(b[0], b[1], b[2])
		s, e := Prism(b, low, high)
		if area == "0" || sum == "0" {
			if e == api.OK {
				t.Fatalf("Prism(%v, %v, %v) = %v", b, low, high, s)
			}
			continue
		}
		volume, _ := Volume(s)
		if want := rational.Mul(rational.Mul(rational.Abs(area), sum), "1/6"); volume != want || e != api.OK || Check(s) != api.OK {
			t.Fatalf("Prism(%v, %v, %v) = %v, %d, with the volume %s", b, low, high, s, e, volume)
		}
		for i, at := range b {
			for _, z := range []api.Rational{low[i], high[i]} {
				if !slices.Contains(s.Vertices, api.Vector{X: at.X, Y: at.Y, Z: z}) {
					t.Fatalf("Prism(%v, %v, %v) = %v", b, low, high, s)
				}
			}
		}
	}
}
