package fitting

import (
	"math/rand"
	"strconv"
	"strings"
	"testing"

	"klippe/api"
	"klippe/exact"
	"klippe/rational"
)

// nearby makes a vector of small numbers, times a power of 10, that are changed in their last digit.
func nearby(r *rand.Rand, digits int) api.Vector {
	number := func() api.Rational {
		bit := rational.Whole(r.Intn(3) - 1)
		return rational.Add(rational.Mul(rational.Whole(r.Intn(3)-1), api.Rational("1"+strings.Repeat("0", digits))), bit)
	}
	for {
		if v := (api.Vector{X: number(), Y: number(), Z: number()}); v != (api.Vector{X: "0", Y: "0", Z: "0"}) {
			return v
		}
	}
}

// TestCompare compares totals of axes that are alike but for their last digits, where the rough form does and does not decide.
func TestCompare(t *testing.T) {
	r := rand.New(rand.NewSource(1))
	counts := map[string]int{}
	for range 3000 {
		digits := 1 + r.Intn(60)
		normals := make([]exact.Direction, 1+r.Intn(5))
		for i := range normals {
			normals[i] = exact.Along(nearby(r, digits))
		}
		m := newMisfits(normals)
		a, b := exact.Along(nearby(r, digits)), exact.Along(nearby(r, digits))
		want := rational.Compare(m.total(a), m.total(b))
		if got := m.compare(a, b); got != want {
			t.Fatalf("compare of %v and %v for %v = %d, not %d", a.Text(), b.Text(), normals, got, want)
		}
		first := difference(m.rough, a, b).Sign()
		counts[strconv.FormatBool(m.full.words() > roughWords)+strconv.Itoa(first*want)]++
	}
	for _, kind := range []string{"false0", "false1", "true-1", "true0", "true1"} {
		if counts[kind] == 0 {
			t.Errorf("no %s: %v", kind, counts)
		}
	}
}
