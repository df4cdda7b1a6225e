package exact

import (
	"math/rand"
	"testing"

	"klippe/api"
	"klippe/samples"
	"klippe/vector"
	"klippe/whole"
)

func TestDirections(t *testing.T) {
	r := rand.New(rand.NewSource(5))
	for range 1000 {
		// Primitive vectors are directions as they are.
		a, _ := Primitive(anyVector(r))
		b, _ := Primitive(anyVector(r))
		d, e := Along(a), Along(b)
		if dot, _ := vector.Dot(a, b); api.Rational(d.Dot(e).Text()) != dot {
			t.Fatalf("%v times %v is %s", a, b, d.Dot(e).Text())
		}
		sum, _ := vector.Add(a, b)
		cross, _ := vector.Cross(a, b)
		multiple, _ := vector.Scale(a, "-6")
		for name, c := range map[string]struct {
			got  Direction
			want api.Vector
		}{"sum": {d.Plus(e), sum}, "product": {d.Cross(e), cross}, "multiple": {d.Times(whole.From(-6)), multiple}} {
			want, _ := Primitive(c.want)
			if c.got.Text() != want || c.got.IsZero() != (c.want == samples.Vector("0 0 0")) {
				t.Fatalf("the %s of %v and %v is %v, not %v", name, a, b, c.got, c.want)
			}
		}
	}
	for v, want := range map[string]string{"1/2 -1/3 0": "3 -2 0", "6 4 10": "3 2 5", "0 0 -8": "0 0 -1", "0 0 0": "0 0 0"} {
		d := Along(samples.Vector(v))
		for i, x := range samples.Numbers(want) {
			if api.Rational(d[i].Text()) != x {
				t.Errorf("Along(%s) = %v", v, d)
			}
		}
		if d.Times(whole.From(15)).Text() != samples.Vector(want) {
			t.Errorf("15 times Along(%s) = %v", v, d.Times(whole.From(15)).Text())
		}
	}
}
