package polygon

import (
	"math/rand"
	"slices"
	"testing"

	"klippe/api"
	"klippe/rational"
	"klippe/vector"
)

func TestChord(t *testing.T) {
	for _, c := range []struct {
		a, b     string
		from, to api.Rational
	}{
		{"-4 2", "4 2", "1/2", "1"}, {"4 2", "-4 2", "0", "1/2"}, {"-2 2", "6 2", "1/4", "3/4"}, {"1 1", "3 2", "0", "1"}, {"0 0", "4 4", "0", "1"}, {"-1 -1", "5 5", "1/6", "5/6"}, {"2 2", "2 9", "0", "2/7"}, {"-1 2", "2 -1", "1/3", "2/3"}, {"1 -3", "1 0", "", ""}, {"1 -3", "1 1/1000", "3000/3001", "1"},
		// Along a side, and along its line.
		{"0 0", "4 0", "0", "1"}, {"-4 0", "4 0", "1/2", "1"}, {"8 4", "-8 4", "1/4", "1/2"}, {"5 0", "9 0", "", ""}, {"4 0", "9 0", "", ""}, {"9 0", "4 0", "", ""}, {"1 4", "2 4", "0", "1"},
		// One corner alone, or nothing.
		{"-1 1", "1 -1", "", ""}, {"0 0", "-1 -5", "", ""}, {"-2 1", "1 -2", "", ""}, {"-1 2", "-3 2", "", ""}, {"5 0", "5 4", "", ""}, {"0 5", "5 6", "", ""}, {"3 9", "-1 4", "", ""},
	} {
		from, to, found, e := Chord(square(), point(c.a), point(c.b))
		if from != c.from || to != c.to || found != (c.from != "") || e != api.OK {
			t.Errorf("Chord(%s, %s) = %s, %s, %t, %d", c.a, c.b, from, to, found, e)
		}
	}
}

func TestChordErrors(t *testing.T) {
	check := func(p []api.Point, a, b api.Point, want api.Errno) {
		t.Helper()
		if from, to, found, e := Chord(p, a, b); from != "" || to != "" || found || e != want {
			t.Errorf("Chord(%v, %v, %v) = %s, %s, %t, %d", p, a, b, from, to, found, e)
		}
	}
	check(square(), point("1 1"), point("1 1"), api.ErrZero)
	check(square(), point("9 9"), point("9 9"), api.ErrZero)
	check(turned(square(), 3), point("1 1"), point("1 1"), api.ErrOrder)
	for _, x := range notRight {
		for _, bad := range []api.Point{{X: x, Y: "0"}, {X: "0", Y: x}} {
			check(square(), bad, bad, api.ErrNumber)
			check(square(), bad, point("1 1"), api.ErrNumber)
			check(square(), point("1 1"), bad, api.ErrNumber)
			check(nil, bad, bad, api.ErrSize)
		}
	}
	// One end of the chord is too long, if there is one.
	far := []api.Point{point("0 0"), {X: most, Y: "0"}, {X: most, Y: "11"}}
	check(far, point("1/3 -7"), point("1 5"), api.ErrLimit)
	check(far, point("-7 1"), point("-5 8"), api.OK)
}

// TestChordLaws compares with the shares of the ends and of the places on the sides' lines.
func TestChordLaws(t *testing.T) {
	r := rand.New(rand.NewSource(7))
	for range 2000 {
		p, ends := anyPolygon(r), anyPoints(r, 2)
		if r.Intn(3) == 0 {
			ends[0] = p[r.Intn(len(p))]
		}
		a, b := ends[0], ends[1]
		if a == b {
			continue
		}
		shares := []api.Rational{"0", "1"}
		for i, c := range p {
			l, _ := vector.Through(c, p[(i+1)%len(p)])
			if k, found, _ := vector.Cut(l, a, b); found {
				shares = append(shares, k)
			}
		}
		shares = slices.DeleteFunc(shares, func(k api.Rational) bool {
			at, _ := vector.Toward(a, b, k)
			n, _ := Where(p, at)
			return n < 0
		})
		var least, greatest api.Rational
		if len(shares) > 0 {
			least, greatest = slices.MinFunc(shares, rational.Compare), slices.MaxFunc(shares, rational.Compare)
		}
		if least == greatest {
			least, greatest = "", ""
		}
		from, to, found, e := Chord(p, a, b)
		if from != least || to != greatest || found != (least != "") || e != api.OK {
			t.Fatalf("Chord(%v, %v, %v) = %s, %s, %t, %d", p, a, b, from, to, found, e)
		}
	}
}

func TestMap(t *testing.T) {
	for _, c := range []struct{ rows, shift, want string }{
		{"1 0 0 1", "0 0", "0 0 4 0 4 4 0 4"}, {"1 0 0 1", "5 -1/2", "5 -1/2 9 -1/2 9 7/2 5 7/2"}, {"0 -1 1 0", "0 0", "-4 0 0 0 0 4 -4 4"}, {"-1 0 0 -1", "0 0", "-4 -4 0 -4 0 0 -4 0"},
		{"0 1 1 0", "0 0", "0 0 4 0 4 4 0 4"}, {"-1 0 0 1", "1 2", "-3 2 1 2 1 6 -3 6"}, {"1 1 0 2", "0 0", "0 0 4 0 8 8 4 8"}, {"1/2 1/3 1/4 -1", "1 1", "1 1 7/3 -3 13/3 -2 3 2"},
	} {
		rows, p := points(c.rows), square()
		q, e := Map(p, [2]api.Point{rows[0], rows[1]}, point(c.shift))
		if !Equal(q, points(c.want)) || e != api.OK || !Equal(p, square()) {
			t.Errorf("Map(%s, %s) = %v, %d", c.rows, c.shift, q, e)
		}
	}
}

func TestMapErrors(t *testing.T) {
	check := func(p []api.Point, rows [2]api.Point, shift api.Point, want api.Errno) {
		t.Helper()
		if q, e := Map(p, rows, shift); q != nil || e != want {
			t.Errorf("Map(%v, %v, %v) = %v, %d", p, rows, shift, q, e)
		}
	}
	one, zero := [2]api.Point{point("1 0"), point("0 1")}, point("0 0")
	for _, s := range []string{"0 0 0 0", "1 2 2 4", "1 2 0 0", "0 1 0 5", "1/2 1/3 3 2"} {
		rows := points(s)
		check(square(), [2]api.Point{rows[0], rows[1]}, zero, api.ErrDependent)
		check(nil, [2]api.Point{rows[0], rows[1]}, zero, api.ErrSize)
		check(square(), [2]api.Point{rows[0], rows[1]}, api.Point{X: "0"}, api.ErrNumber)
	}
	for _, x := range notRight {
		for i := range 3 {
			for _, bad := range []api.Point{{X: x, Y: "0"}, {X: "0", Y: x}} {
				rows, shift := [2]api.Point{}, bad
				if i < 2 {
					rows, shift = one, zero
					rows[i], rows[1-i] = bad, zero
				} else {
					rows = [2]api.Point{zero, zero}
				}
				check(square(), rows, shift, api.ErrNumber)
				check(turned(square(), 1), rows, shift, api.ErrOrder)
			}
		}
	}
	check(square(), [2]api.Point{{X: most, Y: "0"}, point("0 1")}, zero, api.ErrLimit)
	check(square(), [2]api.Point{point("1 0"), point("0 1")}, api.Point{X: "0", Y: most}, api.ErrLimit)
	// The determinant, and numbers on the way, are too long.
	less := []api.Point{point("0 0"), {X: "1/" + most, Y: "0"}, {X: "1/" + most, Y: "1/" + most}}
	if q, e := Map(less, [2]api.Point{{X: most, Y: "0"}, {X: "0", Y: most}}, zero); !Equal(q, points("0 0 1 0 1 1")) || e != api.OK {
		t.Errorf("Map = %v, %d", q, e)
	}
}

// TestMapLaws compares with the hull of the images.
func TestMapLaws(t *testing.T) {
	r := rand.New(rand.NewSource(8))
	for range 1000 {
		p, m := anyPolygon(r), anyPoints(r, 3)
		var images []api.Point
		for _, a := range p {
			images = append(images, api.Point{X: rational.Sum(rational.Mul(m[0].X, a.X), rational.Mul(m[0].Y, a.Y), m[2].X), Y: rational.Sum(rational.Mul(m[1].X, a.X), rational.Mul(m[1].Y, a.Y), m[2].Y)})
		}
		want, e := Hull(images)
		q, e2 := Map(p, [2]api.Point{m[0], m[1]}, m[2])
		if e == api.ErrEmpty {
			e = api.ErrDependent
		}
		if !Equal(q, want) || e != e2 {
			t.Fatalf("Map(%v, %v) = %v, %d", p, m, q, e)
		}
		if e != api.OK {
			continue
		}
		before, _ := Area(p)
		after, _ := Area(q)
		if factor, _ := vector.Area(vector.At(0, 0), m[0], m[1]); after != rational.Mul(before, rational.Abs(factor)) {
			t.Fatalf("the area of Map(%v, %v) is %s", p, m, after)
		}
		if e := Check(q); e != api.OK {
			t.Fatalf("Check(%v) = %d", q, e)
		}
	}
}
