package relation_test

import (
	"math"
	"math/rand"
	"slices"
	"strings"
	"testing"

	"klippe/api"
	"klippe/relation"
)

// of reads relations, which are separated by commas; each has one of the letters o, c, i and a (or another one) for its kind, between two units.
func of(s string) []api.Relation {
	var l []api.Relation
	for row := range strings.SplitSeq(s, ",") {
		if words := strings.Fields(row); len(words) == 3 {
			l = append(l, api.Relation{Kind: 1 + strings.Index("ocia", words[1]), Upper: words[0], Lower: words[2]})
		}
	}
	return l
}

// anyList makes a right list with few units.
func anyList(r *rand.Rand, most int) []api.Relation {
	l := make([]api.Relation, r.Intn(most+1))
	for i := range l {
		a, b := r.Intn(5), r.Intn(4)
		// The second unit is one of the others.
		l[i] = api.Relation{Kind: 1 + r.Intn(4), Upper: "ABabc"[a : a+1], Lower: "ABabc"[(a+b+1)%5 : (a+b+1)%5+1]}
	}
	return l
}

var (
	longest = "n" + strings.Repeat("8", api.MaxName-1)
	notName = []string{"", "1", "_a", "a b", "a-b", "é", "aé", "a\x00", "a\n", " a", "a ", "a.", "a/", "a:", "a@", "a[", "a`", "a{", "@", "[", "`", "{", "\xff", longest + "8"}
)

func TestIsName(t *testing.T) {
	for _, s := range []string{"a", "z", "A", "Z", "a0", "a9", "a_", "Z__9_", "sandstone", "B2", longest} {
		if !relation.IsName(s) {
			t.Errorf("IsName(%q)", s)
		}
	}
	for _, s := range notName {
		if relation.IsName(s) {
			t.Errorf("IsName(%q)", s)
		}
	}
	for c := range 256 {
		letter := c >= 'a' && c <= 'z' || c >= 'A' && c <= 'Z'
		behind := letter || c >= '0' && c <= '9' || c == '_'
		s := string([]byte{byte(c)})
		if relation.IsName(s) != letter || relation.IsName("a"+s) != behind || relation.IsName("a"+s+"a") != behind {
			t.Errorf("IsName of %q: %t, %t", s, relation.IsName(s), relation.IsName("a"+s))
		}
	}
}

func TestCheck(t *testing.T) {
	for _, kind := range []int{api.Overlies, api.Cuts, api.Intrudes, api.Against} {
		x := api.Relation{Kind: kind, Upper: "a", Lower: longest}
		if e := relation.Check(x); e != api.OK {
			t.Errorf("Check(%v) = %d", x, e)
		}
		if e := relation.Check(api.Relation{Kind: kind, Upper: "a", Lower: "a"}); e != api.ErrConflict {
			t.Errorf("Check of a twice, with the kind %d: %d", kind, e)
		}
		for _, s := range notName {
			for _, x := range []api.Relation{{Kind: kind, Upper: s, Lower: "a"}, {Kind: kind, Upper: "a", Lower: s}, {Kind: kind, Upper: s, Lower: s}} {
				if e := relation.Check(x); e != api.ErrName {
					t.Errorf("Check(%v) = %d", x, e)
				}
			}
		}
	}
	for _, kind := range []int{0, 5, -1, math.MaxInt, math.MinInt} {
		for _, x := range []api.Relation{{Kind: kind, Upper: "a", Lower: "b"}, {Kind: kind, Upper: "1", Lower: ""}, {Kind: kind, Upper: "a", Lower: "a"}} {
			if e := relation.Check(x); e != api.ErrKind {
				t.Errorf("Check(%v) = %d", x, e)
			}
		}
	}
	if e := relation.Check(api.Relation{}); e != api.ErrKind {
		t.Errorf("Check = %d", e)
	}
}

// call is a function with a list, and with names that are right, which reports whether all results but the error are zero values.
type call struct {
	name string
	do   func(l []api.Relation) (isZero bool, e api.Errno)
}

// calls has all functions with a list; further names of theirs are none.
func calls() []call {
	return []call{
		{"CheckAll", func(l []api.Relation) (bool, api.Errno) { return true, relation.CheckAll(l) }},
		{"Normal", func(l []api.Relation) (bool, api.Errno) { x, e := relation.Normal(l); return len(x) == 0, e }},
		{"Units", func(l []api.Relation) (bool, api.Errno) { x, e := relation.Units(l); return len(x) == 0, e }},
		{"Arcs", func(l []api.Relation) (bool, api.Errno) { x, e := relation.Arcs(l); return len(x) == 0, e }},
		{"Opposed", func(l []api.Relation) (bool, api.Errno) { x, e := relation.Opposed(l); return len(x) == 0, e }},
		{"Between", func(l []api.Relation) (bool, api.Errno) { x, e := relation.Between(l, "1", ""); return len(x) == 0, e }},
		{"Rename", func(l []api.Relation) (bool, api.Errno) { x, e := relation.Rename(l, "1", ""); return len(x) == 0, e }},
		{"Without", func(l []api.Relation) (bool, api.Errno) { x, e := relation.Without(l, "1"); return len(x) == 0, e }},
	}
}

func TestListErrors(t *testing.T) {
	good := of("a o b, b c c")
	many := slices.Repeat(of("a o b"), relation.MaxRelations+1)
	wrong := slices.Clone(many)
	wrong[0] = api.Relation{}
	for _, w := range []struct {
		l []api.Relation
		e api.Errno
	}{
		{many, api.ErrLimit},
		{wrong, api.ErrLimit},
		{wrong[:relation.MaxRelations], api.ErrKind},
		{of("a x b"), api.ErrKind},
		{of("a o 1"), api.ErrName},
		{of("a o a"), api.ErrConflict},
		{append(slices.Clone(good), of("a o a, a o 1, a x b")...), api.ErrConflict},
		{append(slices.Clone(good), of("a o 1, a o a, a x b")...), api.ErrName},
		{append(slices.Clone(good), of("a x b, a o a, a o 1")...), api.ErrKind},
	} {
		for _, c := range calls() {
			if isZero, e := c.do(w.l); !isZero || e != w.e {
				t.Errorf("%s(%v): %t, %d", c.name, w.l, isZero, e)
			}
		}
	}
	for _, l := range [][]api.Relation{nil, {}, good, many[:relation.MaxRelations]} {
		for _, c := range calls() {
			want := api.OK
			if slices.Contains([]string{"Between", "Rename", "Without"}, c.name) {
				want = api.ErrName
			}
			if isZero, e := c.do(l); e != want || e != api.OK && !isZero {
				t.Errorf("%s(%v): %t, %d", c.name, l, isZero, e)
			}
		}
	}
}

// TestNameErrors gives each function with further names one that is none.
func TestNameErrors(t *testing.T) {
	l := of("a o b, b c c")
	for _, s := range notName {
		first, e1 := relation.Between(l, s, "a")
		second, e2 := relation.Between(l, "a", s)
		third, e3 := relation.Rename(l, s, "a")
		fourth, e4 := relation.Rename(l, "a", s)
		fifth, e5 := relation.Without(l, s)
		if len(first)+len(second)+len(third)+len(fourth)+len(fifth) > 0 || slices.ContainsFunc([]api.Errno{e1, e2, e3, e4, e5}, func(e api.Errno) bool { return e != api.ErrName }) {
			t.Errorf("%q: %d, %d, %d, %d, %d", s, e1, e2, e3, e4, e5)
		}
	}
}

// TestUnchanged calls each function, and changes its results.
func TestUnchanged(t *testing.T) {
	l := of("b a a, c o b, b o a, d i c")
	before := slices.Clone(l)
	normal, _ := relation.Normal(l)
	renamed, _ := relation.Rename(l, "x", "y")
	without, _ := relation.Without(l, "x")
	for _, x := range [][]api.Relation{normal, renamed, without} {
		if len(x) != len(l) {
			t.Errorf("%v instead of %v", x, l)
		}
		clear(x)
	}
	relation.Rename(l, "a", "z")
	relation.Without(l, "a")
	for _, c := range calls() {
		c.do(l)
	}
	if !slices.Equal(l, before) {
		t.Errorf("the list is %v", l)
	}
}
