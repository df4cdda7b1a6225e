package stereonet_test

import (
	"math"
	"math/big"
	"math/rand"
	"slices"
	"strings"
	"testing"

	"klippe/api"
	"klippe/integer"
	"klippe/rational"
	"klippe/stereonet"
)

const (
	angle = stereonet.EqualAngle
	area  = stereonet.EqualArea
)

func net(kind, radius int) stereonet.Net  { return stereonet.Net{Kind: kind, Radius: radius} }
func dotAt(column, row int) stereonet.Dot { return stereonet.Dot{Column: column, Row: row} }
func root(x api.Int, places int) api.Int {
	r, _ := integer.Root(integer.Mul(x, power(2*places)))
	return r
}
func power(places int) api.Int           { return api.Int("1" + strings.Repeat("0", places)) }
func over(num, den api.Int) api.Rational { x, _ := rational.New(num, den); return x }
func float(x api.Rational) *big.Float {
	r, _ := new(big.Rat).SetString(string(x))
	return new(big.Float).SetPrec(bits).SetRat(r)
}
func mul(a, b *big.Float) *big.Float        { return new(big.Float).SetPrec(bits).Mul(a, b) }
func sum(a, b *big.Float) *big.Float        { return new(big.Float).SetPrec(bits).Add(a, b) }
func difference(a, b *big.Float) *big.Float { return new(big.Float).SetPrec(bits).Sub(a, b) }

const bits = 600

// pixel calculates with floating numbers; it reports whether they tell the pixel.
func pixel(n stereonet.Net, v api.Vector) (stereonet.Dot, bool) {
	x, y, z := float(v.X), float(v.Y), float(v.Z)
	if z.Sign() > 0 {
		x.Neg(x)
		y.Neg(y)
		z.Neg(z)
	}
	length := new(big.Float).SetPrec(bits).Sqrt(sum(sum(mul(x, x), mul(y, y)), mul(z, z)))
	w := difference(big.NewFloat(1), new(big.Float).SetPrec(bits).Quo(z, length))
	if n.Kind == area {
		w.Sqrt(w)
	}
	column, isColumn := nearest(n.Radius, x, mul(length, w))
	row, isRow := nearest(n.Radius, y, mul(length, w))
	return dotAt(column, row), isColumn && isRow
}

func nearest(radius int, x, divisor *big.Float) (int, bool) {
	value := mul(new(big.Float).SetPrec(bits).Quo(x, divisor), big.NewFloat(float64(radius)))
	value = sum(value, big.NewFloat(float64(radius)+0.5))
	whole, _ := value.Int64()
	rest := difference(value, new(big.Float).SetInt64(whole))
	near := big.NewFloat(1e-100)
	return int(whole) - radius, rest.Cmp(near) > 0 && difference(big.NewFloat(1), rest).Cmp(near) > 0
}

func TestPixel(t *testing.T) {
	for _, c := range []struct {
		n    stereonet.Net
		v    string
		want stereonet.Dot
	}{
		{net(angle, 100), "1 0 0", dotAt(100, 0)},
		{net(angle, 100), "0 0 -1", dotAt(0, 0)},
		{net(angle, 100), "1 0 -1", dotAt(41, 0)},
		{net(area, 100), "1 0 -1", dotAt(54, 0)},
		{net(area, 100), "1 0 1", dotAt(-54, 0)},
		{net(angle, 100), "1 0 1", dotAt(-41, 0)},
		{net(area, 100), "0 0 -1", dotAt(0, 0)},
		{net(area, 100), "0 0 7/3", dotAt(0, 0)},
		{net(area, 100), "-1/2 0 0", dotAt(-100, 0)},
		{net(area, 1000), "0 -9 0", dotAt(0, -1000)},
		{net(angle, 1), "0 2 0", dotAt(0, 1)},
		{net(angle, 100), "3 4 0", dotAt(60, 80)},
		{net(area, 100), "-3 4 0", dotAt(-60, 80)},
		{net(angle, 100), "3 -4 0", dotAt(60, -80)},
		{net(area, 1000), "1 2 -3", dotAt(199, 398)},
		{net(angle, 1000), "-2 1 -2", dotAt(-400, 200)},
		// The number is 1/2, 3/2 or 5/2: the greater of two integers.
		{net(angle, 1), "4 0 -3", dotAt(1, 0)},
		{net(angle, 1), "-4 0 -3", dotAt(0, 0)},
		{net(angle, 1), "0 4 -3", dotAt(0, 1)},
		{net(angle, 1), "0 -4 -3", dotAt(0, 0)},
		{net(angle, 3), "4 0 -3", dotAt(2, 0)},
		{net(angle, 3), "-4 0 -3", dotAt(-1, 0)},
		{net(angle, 3), "4 0 3", dotAt(-1, 0)},
		{net(angle, 5), "0 4/7 -3/7", dotAt(0, 3)},
		{net(angle, 5), "0 -4/7 -3/7", dotAt(0, -2)},
		{net(angle, 999), "4 0 -3", dotAt(500, 0)},
		{net(angle, 999), "4 0 3", dotAt(-499, 0)},
		{net(angle, 999), "0 12 -5", dotAt(0, 666)},
	} {
		if got, e := stereonet.Pixel(c.n, of(c.v)); got != c.want || e != api.OK {
			t.Errorf("Pixel(%v, %s) = %v, %d", c.n, c.v, got, e)
		}
	}
}

// TestPixelAtHalves has numbers that are a half, or differ from it by less than 10 to the power -150.
func TestPixelAtHalves(t *testing.T) {
	const places = 160
	seven := root("7", places)
	// On the equal-area net, root(7) 0 -3 has the place 1/2; so has 2 + root(7) 3 -3 on the equal-angle one.
	low, high := over(seven, power(places)), over(integer.Add(seven, "1"), power(places))
	step := over("1", power(150))
	for _, c := range []struct {
		kind          int
		below, beyond api.Vector
	}{
		{area, api.Vector{X: low, Y: "0", Z: "-3"}, api.Vector{X: high, Y: "0", Z: "-3"}},
		{angle, api.Vector{X: rational.Add(low, "2"), Y: "3", Z: "-3"}, api.Vector{X: rational.Add(high, "2"), Y: "3", Z: "-3"}},
		{angle, api.Vector{X: rational.Sub("4", step), Y: "0", Z: "-3"}, api.Vector{X: rational.Add("4", step), Y: "0", Z: "-3"}},
		{angle, api.Vector{X: rational.Sub("4", step), Y: "0", Z: "-3"}, of("4 0 -3")},
	} {
		for _, radius := range []int{1, 3, 7, 999} {
			half := radius / 2
			for v, want := range map[api.Vector]int{c.below: half, c.beyond: half + 1} {
				checkColumnAndRow(t, net(c.kind, radius), v, want)
			}
			minus := func(v api.Vector) api.Vector { return api.Vector{X: rational.Neg(v.X), Y: v.Y, Z: v.Z} }
			beyond := -half - 1
			if c.beyond == of("4 0 -3") {
				beyond = -half
			}
			for v, want := range map[api.Vector]int{minus(c.below): -half, minus(c.beyond): beyond} {
				checkColumnAndRow(t, net(c.kind, radius), v, want)
			}
		}
	}
}

// checkColumnAndRow checks the column, and the row of the direction that is turned by a quarter.
func checkColumnAndRow(t *testing.T, n stereonet.Net, v api.Vector, want int) {
	t.Helper()
	if got, e := stereonet.Pixel(n, v); got.Column != want || e != api.OK {
		t.Errorf("Pixel(%v, %v) = %v, %d", n, v, got, e)
	}
	turned := api.Vector{X: rational.Neg(v.Y), Y: v.X, Z: v.Z}
	if got, e := stereonet.Pixel(n, turned); got.Row != want || e != api.OK {
		t.Errorf("Pixel(%v, %v) = %v, %d", n, turned, got, e)
	}
}

// TestPixelLaws compares with floating numbers, and checks the consequences.
func TestPixelLaws(t *testing.T) {
	r := rand.New(rand.NewSource(2))
	told := 0
	for range 3000 {
		n, v := net(1+r.Intn(2), 1+r.Intn(1000)), anyDirection(r)
		if r.Intn(3) == 0 {
			n.Radius = 1 + r.Intn(8)
		}
		got, e := stereonet.Pixel(n, v)
		want, tells := pixel(n, v)
		if tells && got != want || e != api.OK {
			t.Fatalf("Pixel(%v, %v) = %v, %d, not %v", n, v, got, e, want)
		}
		if tells {
			told++
		}
		factor := ratio(1+r.Intn(9), 1+r.Intn(9))
		if longer, _ := stereonet.Pixel(n, times(factor, v)); longer != got {
			t.Fatalf("Pixel(%v, %v) = %v, but multiplied by %s it is %v", n, v, got, factor, longer)
		}
		opposite, _ := stereonet.Pixel(n, times("-1", v))
		if v.Z != "0" && opposite != got || v.Z == "0" && tells && opposite != dotAt(-got.Column, -got.Row) {
			t.Fatalf("Pixel(%v, %v) = %v, but that of the opposite is %v", n, v, got, opposite)
		}
		turned, _ := stereonet.Pixel(n, api.Vector{X: rational.Neg(v.Y), Y: v.X, Z: v.Z})
		if turned.Row != got.Column || tells && turned.Column != -got.Row {
			t.Fatalf("Pixel(%v, %v) = %v, but turned by a quarter it is %v", n, v, got, turned)
		}
	}
	if told < 2000 {
		t.Errorf("only %d pixels were compared", told)
	}
}

// TestLongPixels has numbers as long as they may be.
func TestLongPixels(t *testing.T) {
	for _, v := range []api.Vector{{X: most, Y: tiny, Z: "0"}, {X: most, Y: "-" + tiny, Z: "-1"}, {X: "1", Y: tiny, Z: tiny}} {
		for _, kind := range []int{angle, area} {
			want := 1000
			if v.Z == tiny {
				want = -1000
			}
			if got, e := stereonet.Pixel(net(kind, 1000), v); got != dotAt(want, 0) || e != api.OK {
				t.Errorf("Pixel(%v) = %v, %d", v, got, e)
			}
		}
	}
	if got, e := stereonet.Pixel(net(area, 1000), api.Vector{X: most, Y: "-" + most, Z: "-" + tiny}); got != dotAt(707, -707) || e != api.OK {
		t.Errorf("Pixel = %v, %d", got, e)
	}
}

func TestCircle(t *testing.T) {
	for _, c := range []struct {
		n      stereonet.Net
		normal string
		steps  int
		want   []stereonet.Dot
	}{
		// A horizontal plane begins in the east, or where -ny, nx, 0 points; b is 0 nz 0.
		{net(angle, 10), "0 0 1", 1, []stereonet.Dot{{10, 0}, {0, 10}, {-10, 0}}},
		{net(angle, 10), "0 0 -1", 1, []stereonet.Dot{{10, 0}, {0, -10}, {-10, 0}}},
		{net(area, 10), "0 0 1", 2, []stereonet.Dot{{10, 0}, {7, 7}, {0, 10}, {-7, 7}, {-10, 0}}},
		// The direction halfway is 1 4 0.
		{net(area, 10), "0 0 4", 2, []stereonet.Dot{{10, 0}, {2, 10}, {0, 10}, {-2, 10}, {-10, 0}}},
		{net(angle, 10), "1 0 0", 1, []stereonet.Dot{{0, 10}, {0, 0}, {0, -10}}},
		{net(angle, 100), "1 0 0", 2, []stereonet.Dot{{0, 100}, {0, 41}, {0, 0}, {0, -41}, {0, -100}}},
		{net(area, 100), "0 1 0", 2, []stereonet.Dot{{-100, 0}, {-54, 0}, {0, 0}, {54, 0}, {100, 0}}},
		{net(angle, 10), "1 0 1", 2, []stereonet.Dot{{0, 10}, {4, 4}, {4, 0}, {4, -4}, {0, -10}}},
		// The directions in between depend on the length of the normal.
		{net(angle, 10), "2 0 2", 2, []stereonet.Dot{{0, 10}, {4, 2}, {4, 0}, {4, -2}, {0, -10}}},
		{net(angle, 10), "-1 0 -1", 2, []stereonet.Dot{{0, -10}, {4, -4}, {4, 0}, {4, 4}, {0, 10}}},
		{net(angle, 3), "4 0 3", 1, []stereonet.Dot{{0, 3}, {1, 0}, {0, -3}}},
		{net(angle, 3), "3 0 4", 1, []stereonet.Dot{{0, 3}, {2, 0}, {0, -3}}},
		{net(angle, 3), "-3 0 4", 1, []stereonet.Dot{{0, -3}, {-1, 0}, {0, 3}}},
	} {
		if got, e := stereonet.Circle(c.n, of(c.normal), c.steps); !slices.Equal(got, c.want) || e != api.OK {
			t.Errorf("Circle(%v, %s, %d) = %v, %d", c.n, c.normal, c.steps, got, e)
		}
	}
	for _, steps := range []int{0, -1, 101, math.MaxInt, math.MinInt} {
		if got, e := stereonet.Circle(net(angle, 10), of("1 2 3"), steps); len(got) != 0 || e != api.ErrRange {
			t.Errorf("Circle with %d steps = %v, %d", steps, got, e)
		}
	}
}

// TestCircleLaws asks for the pixels of the directions of the way.
func TestCircleLaws(t *testing.T) {
	r := rand.New(rand.NewSource(3))
	for i := range 300 {
		n, normal, steps := net(1+r.Intn(2), 1+r.Intn(1000)), anyDirection(r), 1+r.Intn(12)
		if i < 10 {
			steps = stereonet.MaxSteps
		}
		a, b := way(normal)
		var want []stereonet.Dot
		add := func(k, m int) {
			v := plus(times(ratio(k, 1), a), times(ratio(m, 1), b))
			if dot(v, normal) != "0" || rational.Sign(v.Z) > 0 {
				t.Fatalf("%v is not on the lower half of the plane of %v", v, normal)
			}
			at, e := stereonet.Pixel(n, v)
			if e != api.OK {
				t.Fatalf("Pixel(%v, %v): %d", n, v, e)
			}
			want = append(want, at)
		}
		for i := 0; i <= steps; i++ {
			add(steps-i, i)
		}
		for i := 1; i <= steps; i++ {
			add(-i, steps-i)
		}
		if got, e := stereonet.Circle(n, normal, steps); !slices.Equal(got, want) || e != api.OK {
			t.Fatalf("Circle(%v, %v, %d) = %v, %d, not %v", n, normal, steps, got, e, want)
		}
	}
}

func plus(a, b api.Vector) api.Vector {
	return api.Vector{X: rational.Add(a.X, b.X), Y: rational.Add(a.Y, b.Y), Z: rational.Add(a.Z, b.Z)}
}

// way returns the direction at which the way of a plane begins, and the one in its middle.
func way(n api.Vector) (a, b api.Vector) {
	if n.X == "0" && n.Y == "0" {
		return of("1 0 0"), api.Vector{X: "0", Y: n.Z, Z: "0"}
	}
	a = api.Vector{X: rational.Neg(n.Y), Y: n.X, Z: "0"}
	down := rational.Neg(rational.Add(rational.Mul(n.X, n.X), rational.Mul(n.Y, n.Y)))
	return a, api.Vector{X: rational.Mul(n.X, n.Z), Y: rational.Mul(n.Y, n.Z), Z: down}
}

// TestLongCircle has a normal whose multiples by the steps have more digits than a right number.
func TestLongCircle(t *testing.T) {
	got, e := stereonet.Circle(net(area, 1000), api.Vector{X: most, Y: "0", Z: tiny}, 100)
	want := []stereonet.Dot{{0, 1000}, {0, 0}, {0, -1000}}
	if e != api.OK || len(got) != 201 || !slices.Equal([]stereonet.Dot{got[0], got[100], got[200]}, want) {
		t.Errorf("Circle = %v, %d", got, e)
	}
}
