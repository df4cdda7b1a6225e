package ranges

import (
	"math/rand"
	"slices"
	"strings"
	"testing"

	"klippe/api"
	"klippe/rational"
	"klippe/samples"
)

var (
	most     = samples.Most()
	notRight = samples.NotRight()
)

// u makes a list of parts of the pairs of numbers of a text.
func u(s string) []Part {
	var l []Part
	for _, p := range strings.Fields(s) {
		low, high, _ := strings.Cut(p, "..")
		l = append(l, Part{api.Rational(low), api.Rational(high)})
	}
	return l
}

// many makes parts from 2 i + shift to 2 i + 1 + shift.
func many(n int, shift api.Rational) []Part {
	l := make([]Part, n)
	for i := range l {
		l[i] = Part{rational.Add(rational.Whole(2*i), shift), rational.Add(rational.Whole(2*i+1), shift)}
	}
	return l
}

func TestCheck(t *testing.T) {
	for s, want := range map[string]api.Errno{
		"": api.OK, "0..1": api.OK, "-1/2..1/3 1/2..2 5/2..3": api.OK, "-" + string(most) + ".." + string(most): api.OK,
		"1..1": api.ErrForm, "2..1": api.ErrForm, "0..1 1..2": api.ErrOrder, "0..2 1..3": api.ErrOrder, "4..5 0..1": api.ErrOrder, "0..1 3..2": api.ErrForm,
		"0..x": api.ErrNumber, "x..1": api.ErrNumber, "0..1 2..6/2": api.ErrNumber, "0..1 1/2..1/2 x..2": api.ErrForm, "0..1 1..2 x..2": api.ErrOrder, "0..1 1/2..1/4": api.ErrForm, "2..1/1": api.ErrNumber,
	} {
		if e := Check(u(s)); e != want {
			t.Errorf("Check(%s) = %d, not %d", s, e, want)
		}
	}
	if e := Check(many(MaxParts, "0")); e != api.OK {
		t.Errorf("Check of %d parts: %d", MaxParts, e)
	}
	for _, l := range [][]Part{many(MaxParts+1, "0"), make([]Part, MaxParts+1)} {
		if e := Check(l); e != api.ErrLimit {
			t.Errorf("Check of %d parts: %d", len(l), e)
		}
	}
	for _, x := range notRight {
		if e := Check([]Part{{"0", "1"}, {x, "3"}}); e != api.ErrNumber {
			t.Errorf("Check with %s: %d", x, e)
		}
		if e := Check([]Part{{"0", x}, {"3", "4"}}); e != api.ErrNumber {
			t.Errorf("Check with %s: %d", x, e)
		}
	}
}

func TestOf(t *testing.T) {
	for s, want := range map[string]string{
		"": "", "3..4 0..1 1/2..2 2..5/2": "0..5/2 3..4", "0..9 1..2 3..4": "0..9", "5..6 5..6": "5..6", "1..2 0..1": "0..2", "0..1 0..3 2..4": "0..4", "-1/3..-1/4 -1/2..-1/3": "-1/2..-1/4", "10..11 9..19/2": "9..19/2 10..11",
	} {
		l := u(s)
		if got, e := Of(l); !Equal(got, u(want)) || e != api.OK {
			t.Errorf("Of(%s) = %v, %d", s, got, e)
		}
		if !slices.Equal(l, u(s)) {
			t.Errorf("Of has changed %s to %v", s, l)
		}
	}
	for s, want := range map[string]api.Errno{"1..1": api.ErrForm, "0..5 3..2 x..y": api.ErrForm, "0..1 x..2 3..2": api.ErrNumber, "0..1 0..2/1": api.ErrNumber} {
		if got, e := Of(u(s)); got != nil || e != want {
			t.Errorf("Of(%s) = %v, %d", s, got, e)
		}
	}
	l := many(MaxParts, "0")
	slices.Reverse(l)
	if got, e := Of(l); !Equal(got, many(MaxParts, "0")) || e != api.OK {
		t.Errorf("Of many = %v, %d", got, e)
	}
	if got, e := Of(slices.Repeat(u("1..1"), MaxParts+1)); got != nil || e != api.ErrLimit {
		t.Errorf("Of too many = %v, %d", got, e)
	}
}

func TestEqual(t *testing.T) {
	if !Equal(nil, []Part{}) || !Equal(u("x..1"), u("x..1")) || Equal(u("0..1"), nil) || Equal(u("0..1"), u("0..2")) || Equal(u("1..2"), u("0..2")) || Equal(u("0..1 2..3"), u("0..1")) {
		t.Error("Equal")
	}
}

func TestCombined(t *testing.T) {
	for _, c := range []struct{ a, b, union, common, rest string }{
		{"", "", "", "", ""},
		{"0..1", "", "0..1", "", "0..1"},
		{"", "0..1", "0..1", "", ""},
		{"0..5/2 3..4", "1..7/2", "0..4", "1..5/2 3..7/2", "0..1 7/2..4"},
		{"0..1", "1..2", "0..2", "", "0..1"},
		{"0..2", "0..2", "0..2", "0..2", ""},
		{"0..1 2..3", "1..2", "0..3", "", "0..1 2..3"},
		{"0..9", "1..2 3..4", "0..9", "1..2 3..4", "0..1 2..3 4..9"},
		{"1..2 3..4", "0..9", "0..9", "1..2 3..4", ""},
		{"0..1/2", "1/3..1", "0..1", "1/3..1/2", "0..1/3"},
		{"0..2", "0..1", "0..2", "0..1", "1..2"},
		{"0..2", "1..2", "0..2", "1..2", "0..1"},
		{"0..1", "5..6", "0..1 5..6", "", "0..1"},
	} {
		a, b := u(c.a), u(c.b)
		union, e := Union(a, b)
		if !Equal(union, u(c.union)) || e != api.OK {
			t.Errorf("Union(%s, %s) = %v, %d", c.a, c.b, union, e)
		}
		common, e := Intersect(a, b)
		if !Equal(common, u(c.common)) || e != api.OK {
			t.Errorf("Intersect(%s, %s) = %v, %d", c.a, c.b, common, e)
		}
		rest, e := Subtract(a, b)
		if !Equal(rest, u(c.rest)) || e != api.OK {
			t.Errorf("Subtract(%s, %s) = %v, %d", c.a, c.b, rest, e)
		}
		if is, e := Within(a, b); is != (c.rest == "") || e != api.OK {
			t.Errorf("Within(%s, %s) = %t, %d", c.a, c.b, is, e)
		}
		for _, l := range [][]Part{union, common, rest} {
			for i := range l {
				l[i] = Part{}
			}
		}
		if !Equal(a, u(c.a)) || !Equal(b, u(c.b)) {
			t.Errorf("%s or %s has changed, or shares memory with a result", c.a, c.b)
		}
	}
}

func TestCombinedErrors(t *testing.T) {
	form, order, tooMany := u("1..1"), u("0..1 1..2"), many(MaxParts+1, "0")
	for name, f := range map[string]func(a, b []Part) ([]Part, api.Errno){"Union": Union, "Intersect": Intersect, "Subtract": Subtract, "Within": func(a, b []Part) ([]Part, api.Errno) {
		is, e := Within(a, b)
		return make([]Part, map[bool]int{true: 1}[is]), e
	}} {
		for _, c := range []struct {
			a, b []Part
			want api.Errno
		}{{form, order, api.ErrForm}, {order, form, api.ErrOrder}, {nil, form, api.ErrForm}, {u("0..1"), tooMany, api.ErrLimit}, {tooMany, form, api.ErrLimit}, {u("0..x"), tooMany, api.ErrNumber}} {
			if l, e := f(c.a, c.b); len(l) != 0 || e != c.want {
				t.Errorf("%s = %v, %d, not %d", name, l, e, c.want)
			}
		}
	}
	full := many(MaxParts, "0")
	if l, e := Union(full, many(MaxParts, "1")); !Equal(l, []Part{{"0", "400"}}) || e != api.OK {
		t.Errorf("Union of neighbours = %v, %d", l, e)
	}
	if l, e := Union(full, u("1/2..3/4")); !Equal(l, full) || e != api.OK {
		t.Errorf("Union of %d parts = %v, %d", MaxParts, l, e)
	}
	if l, e := Union(full, u("500..501")); l != nil || e != api.ErrLimit {
		t.Errorf("Union of too many = %v, %d", l, e)
	}
	if l, e := Intersect(full, many(MaxParts, "1/2")); len(l) != MaxParts || e != api.OK {
		t.Errorf("Intersect of many = %v, %d", l, e)
	}
	// Wide parts with gaps inside of those of the other union meet more often than either has parts.
	wide, gaps := make([]Part, MaxParts), make([]Part, MaxParts)
	for i := range wide {
		wide[i] = Part{rational.Whole(10 * i), rational.Whole(10*i + 8)}
		gaps[i] = Part{rational.Whole(10*i + 6), rational.Whole(10*i + 14)}
	}
	if l, e := Intersect(wide, gaps); l != nil || e != api.ErrLimit {
		t.Errorf("Intersect of too many = %v, %d", l, e)
	}
	if l, e := Subtract(full, u("1/4..1/2")); l != nil || e != api.ErrLimit {
		t.Errorf("Subtract of too many = %v, %d", l, e)
	}
	if is, e := Within(full, u("1/4..1/2")); is || e != api.OK {
		t.Errorf("Within of many = %t, %d", is, e)
	}
}

func TestLengthAndContains(t *testing.T) {
	for s, want := range map[string]api.Rational{"": "0", "0..5/2 3..4": "7/2", "-1/2..1/3": "5/6", "-1..0 1/2..3/2": "2"} {
		if x, e := Length(u(s)); x != want || e != api.OK {
			t.Errorf("Length(%s) = %s, %d", s, x, e)
		}
	}
	if x, e := Length(u("0..0")); x != "" || e != api.ErrForm {
		t.Errorf("Length = %s, %d", x, e)
	}
	if x, e := Length([]Part{{"-" + most, "1"}}); x != "" || e != api.ErrLimit {
		t.Errorf("Length of a part that is too long = %s, %d", x, e)
	}
	// The sum is short, though those on the way are not.
	third := api.Rational("1/3" + strings.Repeat("0", 199))
	if x, e := Length([]Part{{"-1/7", rational.Sub("0", third)}, {third, "1/7"}}); x != "" || e != api.ErrLimit {
		t.Errorf("Length = %s, %d", x, e)
	}
	seven := api.Rational("1/7" + strings.Repeat("0", 199))
	if x, e := Length([]Part{{"-1/6", third}, {"1/2", rational.Add("1/2", seven)}, {"3/4", rational.Sub("1", seven)}, {"5/4", rational.Sub("2", third)}}); x != "7/6" || e != api.OK {
		t.Errorf("Length = %s, %d", x, e)
	}
	l := u("0..1 3/2..2")
	for x, want := range map[api.Rational]bool{"-1": false, "0": true, "1/2": true, "1": true, "5/4": false, "3/2": true, "2": true, "21/10": false} {
		if is, e := Contains(l, x); is != want || e != api.OK {
			t.Errorf("Contains(%s) = %t, %d", x, is, e)
		}
	}
	if is, e := Contains(nil, "0"); is || e != api.OK {
		t.Errorf("Contains of nothing = %t, %d", is, e)
	}
	for _, x := range notRight {
		if is, e := Contains(u("-9..9"), x); is || e != api.ErrNumber {
			t.Errorf("Contains(%s) = %t, %d", x, is, e)
		}
		if is, e := Contains(u("1..1"), x); is || e != api.ErrForm {
			t.Errorf("Contains(%s) = %t, %d", x, is, e)
		}
	}
}

// anyUnion makes a union of parts between multiples of 1/6, and tells for each of 60 cells whether it is in it.
func anyUnion(r *rand.Rand) (union []Part, cells [60]bool) {
	var l []Part
	for range r.Intn(8) {
		from := r.Intn(59)
		to := from + 1 + r.Intn(min(12, 60-from))
		low, _ := rational.Of(from, 6)
		high, _ := rational.Of(to, 6)
		l = append(l, Part{low, high})
		for i := from; i < to; i++ {
			cells[i] = true
		}
	}
	union, _ = Of(l)
	return union, cells
}

// ofCells returns the union of the cells that are told.
func ofCells(in func(i int) bool) []Part {
	var l []Part
	for i := range 60 {
		if in(i) {
			low, _ := rational.Of(i, 6)
			high, _ := rational.Of(i+1, 6)
			l = extend(l, Part{low, high})
		}
	}
	return l
}

func TestCells(t *testing.T) {
	r := rand.New(rand.NewSource(1))
	for range 600 {
		a, inA := anyUnion(r)
		b, inB := anyUnion(r)
		union, _ := Union(a, b)
		common, _ := Intersect(a, b)
		rest, _ := Subtract(a, b)
		if Check(a) != api.OK || !Equal(a, ofCells(func(i int) bool { return inA[i] })) {
			t.Fatalf("Of = %v", a)
		}
		if !Equal(union, ofCells(func(i int) bool { return inA[i] || inB[i] })) || !Equal(common, ofCells(func(i int) bool { return inA[i] && inB[i] })) || !Equal(rest, ofCells(func(i int) bool { return inA[i] && !inB[i] })) {
			t.Fatalf("%v and %v: union %v, in common %v, rest %v", a, b, union, common, rest)
		}
		swapped, _ := Union(b, a)
		again, _ := Intersect(b, a)
		if !Equal(union, swapped) || !Equal(common, again) {
			t.Fatalf("%v and %v: the order matters", a, b)
		}
		if both, _ := Intersect(rest, b); len(both) != 0 {
			t.Fatalf("%v less %v has %v in common with it", a, b, both)
		}
		sum := api.Rational("0")
		for _, l := range [][]Part{union, common} {
			length, _ := Length(l)
			sum = rational.Add(sum, length)
		}
		first, _ := Length(a)
		second, _ := Length(b)
		if sum != rational.Add(first, second) {
			t.Fatalf("%v and %v: lengths", a, b)
		}
		if is, _ := Within(a, b); is != (len(rest) == 0) {
			t.Fatalf("Within(%v, %v) = %t", a, b, is)
		}
		for i := range 60 {
			x, _ := rational.Of(2*i+1, 12)
			border, _ := rational.Of(i, 6)
			inside, _ := Contains(a, x)
			atBorder, _ := Contains(a, border)
			if inside != inA[i] || atBorder != (inA[i] || i > 0 && inA[i-1]) {
				t.Fatalf("Contains(%v, %s) = %t, at %s %t", a, x, inside, border, atBorder)
			}
		}
	}
}
