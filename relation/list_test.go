package relation_test

import (
	"math/rand"
	"slices"
	"strings"
	"testing"

	"klippe/api"
	"klippe/relation"
)

func TestNormal(t *testing.T) {
	for _, c := range []struct{ l, want string }{
		{"b a a, c c a, a a b", "c c a, a a b"},
		{"", ""},
		{"a o b", "a o b"},
		{"a o b, a o b, a o b", "a o b"},
		{"b o a, a o b", "a o b, b o a"},
		{"a a b, a i b, a c b, a o b", "a o b, a c b, a i b, a a b"},
		{"a o c, a o b, B o c, aa o b", "B o c, a o b, a o c, aa o b"},
		{"b a a, a a B, b i a", "b i a, B a a, a a b"},
		{"b c a, b a a, b o a", "b o a, b c a, a a b"},
	} {
		if got, e := relation.Normal(of(c.l)); !slices.Equal(got, of(c.want)) || e != api.OK {
			t.Errorf("Normal(%s) = %v, %d", c.l, got, e)
		}
	}
}

func TestNormalLaws(t *testing.T) {
	r := rand.New(rand.NewSource(1))
	for range 1000 {
		l := anyList(r, 12)
		normal, e := relation.Normal(l)
		again, f := relation.Normal(normal)
		if !slices.Equal(again, normal) || e != api.OK || f != api.OK {
			t.Fatalf("Normal(%v) = %v, and its own is %v", l, normal, again)
		}
		units, _ := relation.Units(l)
		arcs, _ := relation.Arcs(l)
		sameUnits, _ := relation.Units(normal)
		sameArcs, _ := relation.Arcs(normal)
		if !slices.Equal(units, sameUnits) || !slices.Equal(arcs, sameArcs) {
			t.Fatalf("Normal(%v) = %v, with the units %v and the arcs %v", l, normal, sameUnits, sameArcs)
		}
		r.Shuffle(len(l), func(i, j int) { l[i], l[j] = l[j], l[i] })
		if other, _ := relation.Normal(l); !slices.Equal(other, normal) {
			t.Fatalf("Normal(%v) = %v, not %v", l, other, normal)
		}
	}
}

func TestUnits(t *testing.T) {
	for l, want := range map[string]string{"": "", "b o a": "a b", "b a a, a c c, Z i b": "Z a b c", "a1 o a, a_ o a, aB o a": "a a1 aB a_"} {
		if got, e := relation.Units(of(l)); !slices.Equal(got, strings.Fields(want)) || e != api.OK {
			t.Errorf("Units(%s) = %v, %d", l, got, e)
		}
	}
}

func TestArcs(t *testing.T) {
	for _, c := range []struct {
		l    string
		want []relation.Arc
	}{
		{"sandstone o shale", []relation.Arc{{"shale", "sandstone"}}},
		{"dike i shale", []relation.Arc{{"shale", "dike"}}},
		{"fault c shale", []relation.Arc{{"shale", "fault"}}},
		{"a a b", nil},
		{"", nil},
		{"b o a, b c a, b i a, b a a", []relation.Arc{{"a", "b"}}},
		{"a o b, b o a", []relation.Arc{{"a", "b"}, {"b", "a"}}},
		{"a o c, b o c, c o a, B o c, x o B", []relation.Arc{{"B", "x"}, {"a", "c"}, {"c", "B"}, {"c", "a"}, {"c", "b"}}},
	} {
		if got, e := relation.Arcs(of(c.l)); !slices.Equal(got, c.want) || e != api.OK {
			t.Errorf("Arcs(%s) = %v, %d", c.l, got, e)
		}
	}
}

func TestBetween(t *testing.T) {
	const l = "a o b, b o c, b c a, a a b, c i a"
	for _, c := range []struct {
		a, b string
		want []int
	}{
		{"a", "b", []int{0, 2, 3}}, {"b", "a", []int{0, 2, 3}}, {"c", "a", []int{4}}, {"c", "b", []int{1}},
		{"a", "a", nil}, {"a", "d", nil}, {"d", "e", nil}, {"d", "d", nil},
	} {
		if got, e := relation.Between(of(l), c.a, c.b); !slices.Equal(got, c.want) || e != api.OK {
			t.Errorf("Between %s and %s: %v, %d", c.a, c.b, got, e)
		}
	}
	if got, e := relation.Between(nil, "a", "b"); len(got) > 0 || e != api.OK {
		t.Errorf("Between = %v, %d", got, e)
	}
}

func TestOpposed(t *testing.T) {
	for _, c := range []struct {
		l    string
		want [][2]int
	}{
		{"a o b, b c a", [][2]int{{0, 1}}},
		{"b c a, a o b", [][2]int{{0, 1}}},
		{"a o b, a c b", nil},
		{"a o b, b a a", nil},
		{"b a a, a a b", nil},
		{"a o b, b o c, c o a", nil},
		{"", nil},
		{"a o b, b c a, c i d, a i b, d o c, b o a", [][2]int{{0, 1}, {0, 5}, {1, 3}, {2, 4}, {3, 5}}},
	} {
		if got, e := relation.Opposed(of(c.l)); !slices.Equal(got, c.want) || e != api.OK {
			t.Errorf("Opposed(%s) = %v, %d", c.l, got, e)
		}
	}
}

// TestOpposedLaws compares with the relations between units, and with their arcs.
func TestOpposedLaws(t *testing.T) {
	r := rand.New(rand.NewSource(2))
	for range 500 {
		l := anyList(r, 10)
		opposed, e := relation.Opposed(l)
		if e != api.OK {
			t.Fatalf("Opposed(%v): %d", l, e)
		}
		for i, x := range l {
			between, _ := relation.Between(l, x.Upper, x.Lower)
			for j := i + 1; j < len(l); j++ {
				want := slices.Contains(between, j) && x.Kind != api.Against && l[j].Kind != api.Against && l[j].Upper == x.Lower
				if slices.Contains(opposed, [2]int{i, j}) != want {
					t.Fatalf("Opposed(%v) = %v", l, opposed)
				}
			}
		}
		for k, pair := range opposed {
			if pair[0] >= pair[1] || k > 0 && slices.Compare(opposed[k-1][:], pair[:]) >= 0 {
				t.Fatalf("Opposed(%v) = %v", l, opposed)
			}
		}
	}
}

func TestRename(t *testing.T) {
	for _, c := range []struct {
		l, from, to, want string
		e                 api.Errno
	}{
		{"a o b, c c a, b a c", "a", "x", "x o b, c c x, b a c", api.OK},
		{"a o b, c c a, b a c", "d", "x", "a o b, c c a, b a c", api.OK},
		{"a o b, c c a, b a c", "a", "a", "a o b, c c a, b a c", api.OK},
		{"a o b, c c d", "a", "d", "d o b, c c d", api.OK},
		{"a o b, a o b, b o a", "b", "B", "a o B, a o B, B o a", api.OK},
		{"a o b, c c d", "a", "b", "", api.ErrConflict},
		{"a o b, c c d", "d", "c", "", api.ErrConflict},
		{"a o b, d a c", "d", "c", "", api.ErrConflict},
		{"", "a", "b", "", api.OK},
	} {
		if got, e := relation.Rename(of(c.l), c.from, c.to); !slices.Equal(got, of(c.want)) || e != c.e {
			t.Errorf("Rename(%s) from %s to %s = %v, %d", c.l, c.from, c.to, got, e)
		}
	}
}

func TestWithout(t *testing.T) {
	for _, c := range []struct{ l, unit, want string }{
		{"a o b, c c a, b a c, c o b", "a", "b a c, c o b"},
		{"a o b, c c a, b a c, c o b", "b", "c c a"},
		{"a o b, c c a", "d", "a o b, c c a"},
		{"a o b, c c a, a o b", "a", ""},
		{"c o b, a a b, c o b", "a", "c o b, c o b"},
		{"", "a", ""},
	} {
		if got, e := relation.Without(of(c.l), c.unit); !slices.Equal(got, of(c.want)) || e != api.OK {
			t.Errorf("Without(%s, %s) = %v, %d", c.l, c.unit, got, e)
		}
	}
}

// TestRenameLaws renames to a new name and back, and leaves units out.
func TestRenameLaws(t *testing.T) {
	r := rand.New(rand.NewSource(3))
	for range 500 {
		l := anyList(r, 12)
		there, e := relation.Rename(l, "a", "new")
		back, f := relation.Rename(there, "new", "a")
		if !slices.Equal(back, l) || e != api.OK || f != api.OK {
			t.Fatalf("Rename(%v) = %v, and back %v", l, there, back)
		}
		if units, _ := relation.Units(there); slices.Contains(units, "a") {
			t.Fatalf("Rename(%v) = %v", l, there)
		}
		without, _ := relation.Without(l, "a")
		same, _ := relation.Without(there, "new")
		if units, _ := relation.Units(without); slices.Contains(units, "a") || !slices.Equal(same, without) {
			t.Fatalf("Without(%v) = %v, renamed %v", l, without, same)
		}
	}
}
