package field_test

import (
	"math/rand"
	"slices"
	"testing"

	"klippe/api"
	"klippe/field"
	"klippe/polygon"
	"klippe/rational"
	"klippe/vector"
)

func part(triangle int, s string) field.Part {
	return field.Part{Triangle: triangle, Polygon: points(s)}
}

func segment(triangle int, s string) field.Segment {
	ends := points(s)
	return field.Segment{Triangle: triangle, From: ends[0], To: ends[1]}
}

func sameParts(a, b []field.Part) bool {
	return slices.EqualFunc(a, b, func(p, q field.Part) bool {
		return p.Triangle == q.Triangle && slices.Equal(p.Polygon, q.Polygon)
	})
}

func TestLevels(t *testing.T) {
	for _, c := range []struct {
		f     string
		z     api.Rational
		parts []field.Part
		lines []field.Segment
	}{
		{"0 2 4 0", "2", []field.Part{part(0, "1 1 2 0 2 2"), part(1, "1 1 2 2 1 2")}, []field.Segment{segment(0, "1 1 2 0"), segment(1, "1 2 1 1")}},
		{"0 2 4 0", "-1", []field.Part{part(0, "0 0 2 0 2 2"), part(1, "0 0 2 2 0 2")}, nil},
		// Along the border there is no line, and none at a corner.
		{"0 2 4 0", "0", []field.Part{part(0, "0 0 2 0 2 2"), part(1, "0 0 2 2 0 2")}, nil}, {"0 2 4 0", "4", nil, nil}, {"0 2 4 0", "5", nil, nil},
		{"0 2 4 0", "3", []field.Part{part(0, "3/2 3/2 2 1 2 2"), part(1, "3/2 3/2 2 2 3/2 2")}, []field.Segment{segment(0, "3/2 3/2 2 1"), segment(1, "3/2 2 3/2 3/2")}},
		{"0 2 4 0", "1/2", []field.Part{part(0, "1/4 1/4 1/2 0 2 0 2 2"), part(1, "1/4 1/4 2 2 1/4 2")}, []field.Segment{segment(0, "1/4 1/4 1/2 0"), segment(1, "1/4 2 1/4 1/4")}},
		// Along the diagonal: with a part on both sides, on one of them, on the other one, on none.
		{"0 1 0 1", "0", []field.Part{part(0, "0 0 2 0 2 2"), part(1, "0 0 2 2 0 2")}, nil}, {"0 1 0 -1", "0", []field.Part{part(0, "0 0 2 0 2 2")}, []field.Segment{segment(0, "2 2 0 0")}}, {"0 -1 0 1", "0", []field.Part{part(1, "0 0 2 2 0 2")}, []field.Segment{segment(1, "0 0 2 2")}}, {"0 0 0 1", "0", []field.Part{part(1, "0 0 2 2 0 2")}, []field.Segment{segment(1, "0 0 2 2")}}, {"0 1 0 0", "0", []field.Part{part(0, "0 0 2 0 2 2")}, []field.Segment{segment(0, "2 2 0 0")}}, {"0 -1 0 -1", "0", nil, nil}, {"0 0 0 0", "0", nil, nil}, {"1 1 1 1", "0", []field.Part{part(0, "0 0 2 0 2 2"), part(1, "0 0 2 2 0 2")}, nil},
		// One corner is at the height, and one is below it.
		{"0 1 -1 1", "0", []field.Part{part(0, "0 0 2 0 2 1"), part(1, "0 0 1 2 0 2")}, []field.Segment{segment(0, "2 1 0 0"), segment(1, "0 0 1 2")}}, {"1 -1 0 2", "0", []field.Part{part(0, "0 0 1 0 2 2"), part(1, "0 0 2 2 0 2")}, []field.Segment{segment(0, "1 0 2 2")}}, {"0 0 1 0", "0", []field.Part{part(0, "0 0 2 0 2 2"), part(1, "0 0 2 2 0 2")}, nil}, {"1 0 -1 -1", "0", []field.Part{part(0, "0 0 2 0 1 1"), part(1, "0 0 1 1 0 1")}, []field.Segment{segment(0, "2 0 1 1"), segment(1, "1 1 0 1")}},
	} {
		parts, e1 := field.Above(square(), of(c.f), c.z)
		lines, e2 := field.Level(square(), of(c.f), c.z)
		if !sameParts(parts, c.parts) || e1 != api.OK {
			t.Errorf("Above(%s, %s) = %v, %d", c.f, c.z, parts, e1)
		}
		if !slices.Equal(lines, c.lines) || e2 != api.OK {
			t.Errorf("Level(%s, %s) = %v, %d", c.f, c.z, lines, e2)
		}
	}
}

// TestLongLevels has numbers that are too long on the way, or in the result.
func TestLongLevels(t *testing.T) {
	check := func(f api.Field, z api.Rational, parts, lines int, e api.Errno) {
		t.Helper()
		p, e1 := field.Above(square(), f, z)
		l, e2 := field.Level(square(), f, z)
		if len(p) != parts || len(l) != lines || e1 != e || e2 != e {
			t.Errorf("Above(%v, %s) = %v, %d, Level = %v, %d", f, z, p, e1, l, e2)
		}
	}
	minus := "-" + most
	check(api.Field{minus, most, most, minus}, "0", 2, 2, api.OK)
	check(api.Field{minus, most, most, minus}, "1", 0, 0, api.ErrLimit)
	check(api.Field{minus, minus, minus, minus}, "1", 0, 0, api.OK)
	check(api.Field{most, most, most, most}, "1/"+most, 2, 0, api.OK)
	check(api.Field{"1/" + most, "-1/" + most, "-1/" + most, "0"}, "0", 2, 2, api.OK)
	// Only one number is too long, at either end of the only line that has one.
	for _, f := range []api.Field{{"1/3", minus, "-1/3", "-1/3"}, {"-1/3", most, "1/3", "1/3"}, {"-1/3", "1/3", minus, "-1"}, {"1/3", "-1/3", most, "1/3"}} {
		check(f, "0", 0, 0, api.ErrLimit)
	}
	// The parts are right, and so are the lines of other triangles, but one place is too long.
	check(api.Field{"0", most, most, "1"}, "1/3", 0, 0, api.ErrLimit)
}

// onLine returns the part of a triangle that is left of the line where its linear function is a height.
func onLine(c []api.Point, values [3]api.Rational, slope api.Point, z api.Rational) []api.Point {
	hull, _ := polygon.Hull(c)
	if slope == point("0 0") {
		if rational.Compare(values[0], z) > 0 {
			return hull
		}
		return nil
	}
	level := rational.Sub(z, values[0])
	level = rational.Sum(level, rational.Mul(slope.X, c[0].X), rational.Mul(slope.Y, c[0].Y))
	part, _, _ := polygon.Clip(hull, vector.Line{A: slope.X, B: slope.Y, C: level})
	return part
}

// anyHeight makes a height that is often the number of a point.
func anyHeight(r *rand.Rand, f api.Field) api.Rational {
	if r.Intn(3) > 0 {
		return f[r.Intn(len(f))]
	}
	return ratio(r.Intn(9)-4, 3)
}

// TestLevelLaws compares parts with clipped triangles, and looks for lines along all of their sides.
func TestLevelLaws(t *testing.T) {
	r := rand.New(rand.NewSource(4))
	count := 0
	for range 800 {
		m := anyMesh(r)
		f := anyField(r, m)
		z := anyHeight(r, f)
		before, beforeF := clone(m), slices.Clone(f)
		parts := make([][]api.Point, len(m.Triangles))
		var want []field.Part
		for i, triangle := range m.Triangles {
			var c []api.Point
			var values [3]api.Rational
			for k, number := range triangle {
				c, values[k] = append(c, m.Points[number]), f[number]
			}
			slope, _ := field.Slope(m, f, i)
			parts[i] = onLine(c, values, slope, z)
			if len(parts[i]) > 0 {
				want = append(want, field.Part{Triangle: i, Polygon: parts[i]})
			}
		}
		got, e := field.Above(m, f, z)
		if !sameParts(got, want) || e != api.OK {
			t.Fatalf("Above(%v, %v, %s) = %v, %d, not %v", m, f, z, got, e, want)
		}
		var lines []field.Segment
		for i, p := range parts {
			for k, from := range p {
				to := p[(k+1)%len(p)]
				if value(t, m, f, from) == z && value(t, m, f, to) == z && separates(m, parts, i, from, to) {
					lines = append(lines, field.Segment{Triangle: i, From: from, To: to})
				}
			}
		}
		level, e := field.Level(m, f, z)
		if !slices.Equal(level, lines) || e != api.OK {
			t.Fatalf("Level(%v, %v, %s) = %v, %d, not %v", m, f, z, level, e, lines)
		}
		checkEnds(t, m, level)
		count += len(level)
		for _, p := range got {
			p.Polygon[0], p.Polygon[len(p.Polygon)-1] = point("17 17"), point("18 18")
		}
		if !same(m, before) || !slices.Equal(f, beforeF) {
			t.Fatal("an argument has changed")
		}
	}
	if count < 1000 {
		t.Errorf("only %d lines", count)
	}
}

// separates reports whether a side of a part lies within a triangle, or is a side of another one that is not a side of its part.
func separates(m api.Mesh, parts [][]api.Point, triangle int, from, to api.Point) bool {
	u, v := slices.Index(m.Points, from), slices.Index(m.Points, to)
	own := m.Triangles[triangle]
	if !slices.Contains(own[:], u) || !slices.Contains(own[:], v) {
		return true
	}
	for i, other := range m.Triangles {
		if i != triangle && slices.Contains(other[:], u) && slices.Contains(other[:], v) {
			return !slices.Contains(parts[i], from) || !slices.Contains(parts[i], to)
		}
	}
	return false
}

// checkEnds counts the lines that begin and end at each place inside of the sheet.
func checkEnds(t *testing.T, m api.Mesh, lines []field.Segment) {
	t.Helper()
	hull, _ := polygon.Hull(m.Points)
	balance := map[api.Point]int{}
	for _, s := range lines {
		balance[s.From]++
		balance[s.To]--
	}
	for p, n := range balance {
		if where, _ := polygon.Where(hull, p); n != 0 && where > 0 {
			t.Fatalf("at %v, %d more lines of %v begin than end", p, n, lines)
		}
	}
}
