package exact

import (
	"cmp"
	"math/rand"
	"slices"
	"testing"

	"klippe/api"
	"klippe/rational"
	"klippe/samples"
	"klippe/whole"
)

// TestBoxes compares the boxes of ranks with those of the numbers.
func TestBoxes(t *testing.T) {
	r := rand.New(rand.NewSource(5))
	for range 3000 {
		a, b := []api.Point{anyPoint(r), anyPoint(r)}, []api.Point{anyPoint(r), anyPoint(r), anyPoint(r)}
		ranks := Rank(a, nil, b)
		want := true
		for _, number := range []func(p api.Point) api.Rational{func(p api.Point) api.Rational { return p.X }, func(p api.Point) api.Rational { return p.Y }} {
			compare := func(p, q api.Point) int { return rational.Compare(number(p), number(q)) }
			want = want && compare(slices.MinFunc(a, compare), slices.MaxFunc(b, compare)) <= 0 && compare(slices.MinFunc(b, compare), slices.MaxFunc(a, compare)) <= 0
		}
		if got := ranks.Box(a...).Meets(ranks.Box(b...)); got != want || ranks.Box(b...).Meets(ranks.Box(a...)) != want {
			t.Fatalf("the boxes of %v and %v meet: %t", a, b, got)
		}
	}
}

func TestOrderPoints(t *testing.T) {
	r := rand.New(rand.NewSource(6))
	for range 1000 {
		p, q := anyPoint(r), anyPoint(r)
		if OrderPoints(p, q) != cmp.Or(rational.Compare(p.X, q.X), rational.Compare(p.Y, q.Y)) || OrderPoints(p, q) != Compare(At(p), At(q)) {
			t.Fatalf("OrderPoints(%v, %v) = %d", p, q, OrderPoints(p, q))
		}
	}
}

func TestFromLeast(t *testing.T) {
	for s, want := range map[string]string{"": "", "1 2": "1 2", "2 0 3 1 -1/2 4": "-1/2 4 2 0 3 1", "0 1 0 0 5 5": "0 0 5 5 0 1", "0 0 1 1 2 0": "0 0 1 1 2 0"} {
		l := samples.Points(s)
		before := slices.Clone(l)
		got := FromLeast(l)
		if !slices.Equal(got, samples.Points(want)) || !slices.Equal(l, before) {
			t.Errorf("FromLeast(%s) = %v", s, got)
		}
		if len(got) > 0 {
			got[0].X = "7"
		}
		if !slices.Equal(l, before) {
			t.Errorf("FromLeast(%s) shares its memory", s)
		}
	}
}

func TestArea(t *testing.T) {
	for s, want := range map[string]api.Rational{"": "0", "1 2": "0", "0 0 4 0": "0", "0 0 4 0 0 2": "8", "0 2 4 0 0 0": "-8", "1 1 5 1 5 2 2 2 2 4 1 4": "12", "1/2 1/2 0 0 1 0 1 1": "1"} {
		if got := Area(samples.Points(s)); got != want {
			t.Errorf("Area(%s) = %s", s, got)
		}
	}
}

// TestWeights adds the corners up again.
func TestWeights(t *testing.T) {
	r := rand.New(rand.NewSource(7))
	for range 1000 {
		l := []api.Point{anyPoint(r), anyPoint(r), anyPoint(r)}
		p := anyPoint(r)
		corners := [3]Point{At(l[0]), At(l[1]), At(l[2])}
		turn := Turn(corners[0], corners[1], corners[2])
		parts, sum := Weights(corners, At(p))
		if sum.Sign() != turn {
			t.Fatalf("the weights of %v have a sum with the sign %d", l, sum.Sign())
		}
		if turn == 0 {
			continue
		}
		total := api.Point{X: "0", Y: "0"}
		one := api.Rational("0")
		for i, part := range parts {
			share := whole.Ratio(part, sum)
			one = rational.Add(one, share)
			total = api.Point{X: rational.Add(total.X, rational.Mul(share, l[i].X)), Y: rational.Add(total.Y, rational.Mul(share, l[i].Y))}
		}
		if one != "1" || total != p {
			t.Fatalf("the weights of %v lead to %v, with the sum %s", l, total, one)
		}
	}
}
