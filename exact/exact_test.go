package exact

import (
	"math/rand"
	"testing"

	"klippe/api"
	"klippe/rational"
	"klippe/samples"
	"klippe/vector"
	"klippe/whole"
)

var most = samples.Most()

func anyNumber(r *rand.Rand) api.Rational {
	x, _ := rational.Of(r.Intn(9)-4, 1+r.Intn(4))
	return x
}

func anyPoint(r *rand.Rand) api.Point { return api.Point{X: anyNumber(r), Y: anyNumber(r)} }

func anyVector(r *rand.Rand) api.Vector {
	return api.Vector{X: anyNumber(r), Y: anyNumber(r), Z: anyNumber(r)}
}

func TestPoints(t *testing.T) {
	r := rand.New(rand.NewSource(1))
	for range 2000 {
		p, q, s := anyPoint(r), anyPoint(r), anyPoint(r)
		a, b, c := At(p), At(q), At(s)
		if a.Text() != p || a[2].Sign() != 1 {
			t.Fatalf("%v is %v", p, a.Text())
		}
		want := rational.Compare(p.X, q.X)
		if want == 0 {
			want = rational.Compare(p.Y, q.Y)
		}
		if Compare(a, b) != want || Compare(a, a) != 0 {
			t.Fatalf("Compare(%v, %v) = %d", p, q, Compare(a, b))
		}
		turn, _ := vector.Turn(p, q, s)
		if Turn(a, b, c) != turn || Through(a, b).Side(c) != turn || Through(a, b).Height(c).Sign() != turn {
			t.Fatalf("Turn(%v, %v, %v) = %d", p, q, s, Turn(a, b, c))
		}
		// Each direction is that of the side, and the next one turns like the points.
		if Through(a, b).Turn(Through(b, c)) != turn || Through(a, b).IsUp() != (want < 0) {
			t.Fatalf("the lines of %v, %v, %v turn to %d, and go up: %t", p, q, s, Through(a, b).Turn(Through(b, c)), Through(a, b).IsUp())
		}
	}
}

func TestLines(t *testing.T) {
	r := rand.New(rand.NewSource(2))
	for range 2000 {
		l := vector.Line{A: anyNumber(r), B: anyNumber(r), C: anyNumber(r)}
		m := vector.Line{A: anyNumber(r), B: anyNumber(r), C: anyNumber(r)}
		if l.A == "0" && l.B == "0" || m.A == "0" && m.B == "0" {
			continue
		}
		p := anyPoint(r)
		value := rational.Sub(rational.Add(rational.Mul(l.A, p.X), rational.Mul(l.B, p.Y)), l.C)
		if side := Of(l.A, l.B, l.C).Side(At(p)); side != rational.Sign(value) {
			t.Fatalf("%v is on the side %d of %v", p, side, l)
		}
		want, found, _ := vector.Meet(l, m)
		if !found {
			continue
		}
		if at := Of(l.A, l.B, l.C).Meet(Of(m.A, m.B, m.C)); at.Text() != want || at[2].Sign() != 1 {
			t.Fatalf("%v and %v meet in %v", l, m, at.Text())
		}
	}
}

func TestSpace(t *testing.T) {
	r := rand.New(rand.NewSource(3))
	for range 2000 {
		p, q := api.Plane{Normal: anyVector(r), Offset: anyNumber(r)}, api.Plane{Normal: anyVector(r), Offset: anyNumber(r)}
		v, w := anyVector(r), anyVector(r)
		if In(v).Text() != v {
			t.Fatalf("%v is %v", v, In(v).Text())
		}
		if vector.CheckPlane(p) != api.OK || vector.CheckPlane(q) != api.OK {
			continue
		}
		if side, _ := vector.Side(p, v); Flat(p).Side(In(v)) != side || Flat(p).Height(In(v)).Sign() != side || Flat(Opposite(p)).Side(In(v)) != -side {
			t.Fatalf("%v is on the side %d of %v", v, Flat(p).Side(In(v)), p)
		}
		// With W twice and three times as great, the place is at 2/5 of the way.
		between := In(v).Combine(whole.Of(api.Int(In(w)[3].Text())).Mul(whole.From(3)), In(w), In(v)[3].Mul(whole.From(2)))
		want := Plus(v, Times("2/5", Minus(w, v)))
		if between.Text() != want {
			t.Fatalf("%v and %v lead to %v, not to %v", v, w, between.Text(), want)
		}
		checkLine(t, p, q)
		checkSpanned(t, p.Normal, q.Normal, v, w)
	}
}

// checkSpanned compares the plane through three places with that of package vector.
func checkSpanned(t *testing.T, a, b, c, at api.Vector) {
	t.Helper()
	spanned := Spanned(In(a), In(b), In(c))
	want, e := vector.Spanned(a, b, c)
	if e == api.ErrDependent {
		if spanned[0].Sign() != 0 || spanned[1].Sign() != 0 || spanned[2].Sign() != 0 {
			t.Fatalf("Spanned(%v, %v, %v) = %v", a, b, c, spanned)
		}
		return
	}
	if spanned.Side(In(at)) != Flat(want).Side(In(at)) || spanned.Side(In(b)) != 0 {
		t.Fatalf("Spanned(%v, %v, %v) = %v, not %v", a, b, c, spanned, want)
	}
}

// checkLine looks for two places of the line that two planes have in common.
func checkLine(t *testing.T, p, q api.Plane) {
	t.Helper()
	from, along, found := Flat(p).Line(Flat(q))
	parallel, _ := vector.Parallel(p.Normal, q.Normal)
	cross, _ := vector.Cross(p.Normal, q.Normal)
	if found == parallel || Flat(p).Cross(Flat(q)).Order() != Order(cross, vector.Of(0, 0, 0)) {
		t.Fatalf("Line(%v, %v): %t", p, q, found)
	}
	if !found {
		return
	}
	for _, at := range []Place{from, from.Combine(whole.From(1), along, whole.From(1))} {
		if Flat(p).Side(at) != 0 || Flat(q).Side(at) != 0 || at[3].Sign() != 1 {
			t.Fatalf("%v is not on %v and %v", at.Text(), p, q)
		}
	}
	if along.Order() != 1 || along[3].Sign() != 0 {
		t.Fatalf("the direction of %v and %v is %v", p, q, along)
	}
}

func TestVectors(t *testing.T) {
	r := rand.New(rand.NewSource(4))
	for range 500 {
		a, b, k := anyVector(r), anyVector(r), anyNumber(r)
		sum, _ := vector.Add(a, b)
		difference, _ := vector.Sub(a, b)
		multiple, _ := vector.Scale(a, k)
		dot, _ := vector.Dot(a, b)
		cross, _ := vector.Cross(a, b)
		if Plus(a, b) != sum || Minus(a, b) != difference || Times(k, a) != multiple || Dot(a, b) != dot || Cross(a, b) != cross {
			t.Fatalf("%v and %v: %v, %v, %v, %s, %v", a, b, Plus(a, b), Minus(a, b), Times(k, a), Dot(a, b), Cross(a, b))
		}
	}
	long := Times(most, api.Vector{X: most, Y: "0", Z: "1/7"})
	if back := Times("1/"+most, long); back != (api.Vector{X: most, Y: "0", Z: "1/7"}) {
		t.Errorf("Times = %v", back)
	}
	for _, c := range []struct {
		a, b string
		want int
	}{{"1 2 3", "1 2 3", 0}, {"1 2 3", "1 2 4", -1}, {"1 3 3", "1 2 4", 1}, {"-1 3 3", "1/2 2 2", -1}} {
		if got := Order(samples.Vector(c.a), samples.Vector(c.b)); got != c.want {
			t.Errorf("Order(%s, %s) = %d", c.a, c.b, got)
		}
	}
	for _, c := range []struct {
		v, want string
		factor  api.Rational
	}{{"1/2 -1/3 0", "3 -2 0", "6"}, {"0 0 -8", "0 0 -1", "1/8"}, {"6 4 10", "3 2 5", "1/2"}, {"0 0 0", "0 0 0", "1"}} {
		if got, factor := Primitive(samples.Vector(c.v)); got != samples.Vector(c.want) || factor != c.factor {
			t.Errorf("Primitive(%s) = %v, %s", c.v, got, factor)
		}
	}
	if Square(samples.Point("1/2 3"), samples.Point("2 -1")) != "73/4" {
		t.Errorf("Square = %s", Square(samples.Point("1/2 3"), samples.Point("2 -1")))
	}
	if level, upright := Rise(samples.Vector("1/2 -3 -2/3")); level != "37/4" || upright != "4/9" {
		t.Errorf("Rise = %s, %s", level, upright)
	}
	if Determinant("1/2", "3", "5", "4") != "-13" {
		t.Errorf("Determinant = %s", Determinant("1/2", "3", "5", "4"))
	}
}
