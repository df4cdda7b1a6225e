package relation_test

import (
	"math/rand"
	"strings"
	"testing"

	"klippe/api"
	"klippe/relation"
)

func TestText(t *testing.T) {
	for _, c := range []struct {
		x    api.Relation
		want string
		e    api.Errno
	}{
		{api.Relation{Kind: api.Overlies, Upper: "sandstone", Lower: "shale"}, "sandstone overlies shale", api.OK},
		{api.Relation{Kind: api.Cuts, Upper: "c", Lower: "a"}, "c cuts a", api.OK},
		{api.Relation{Kind: api.Intrudes, Upper: "dike_2", Lower: "shale"}, "dike_2 intrudes shale", api.OK},
		{api.Relation{Kind: api.Against, Upper: "b", Lower: "A"}, "b against A", api.OK},
		{api.Relation{Kind: api.Cuts, Upper: "cuts", Lower: "overlies"}, "cuts cuts overlies", api.OK},
		{api.Relation{}, "", api.ErrKind},
		{api.Relation{Kind: 5, Upper: "a", Lower: "b"}, "", api.ErrKind},
		{api.Relation{Kind: -1, Upper: "a", Lower: "b"}, "", api.ErrKind},
		{api.Relation{Kind: 1, Upper: "a", Lower: "b c"}, "", api.ErrName},
		{api.Relation{Kind: 1, Upper: "a", Lower: "a"}, "", api.ErrConflict},
	} {
		if got, e := relation.Text(c.x); got != c.want || e != c.e {
			t.Errorf("Text(%v) = %q, %d", c.x, got, e)
		}
	}
}

func TestParse(t *testing.T) {
	for s, want := range map[string]api.Errno{
		"a overlies a": api.ErrConflict, "a against a": api.ErrConflict,
		"a under b": api.ErrSyntax, "1 under b": api.ErrSyntax, "a Cuts b": api.ErrSyntax, "a cut b": api.ErrSyntax, "a cutss b": api.ErrSyntax,
		"1 cuts b": api.ErrName, "a cuts 1": api.ErrName, "1 cuts 1": api.ErrName, "a\n cuts b": api.ErrName, "a cuts b\n": api.ErrName, "é cuts b": api.ErrName,
		longest + "8 cuts b": api.ErrName, "a cuts " + longest + "8": api.ErrName,
		"": api.ErrSyntax, " ": api.ErrSyntax, "  ": api.ErrSyntax, "   ": api.ErrSyntax, "a": api.ErrSyntax, "a cuts": api.ErrSyntax, "a cuts ": api.ErrSyntax, " cuts b": api.ErrSyntax,
		"a  b": api.ErrSyntax, "a  cuts b": api.ErrSyntax, "a cuts  b": api.ErrSyntax, " a cuts b": api.ErrSyntax, "a cuts b ": api.ErrSyntax, "a cuts b c": api.ErrSyntax, "a cuts b cuts c": api.ErrSyntax,
		"a\tcuts\tb": api.ErrSyntax, "a\tcuts b": api.ErrSyntax, "acutsb": api.ErrSyntax, "cuts a b": api.ErrSyntax,
		strings.Repeat("a cuts b ", 10000): api.ErrSyntax, strings.Repeat(" ", 100000): api.ErrSyntax,
	} {
		if got, e := relation.Parse(s); got != (api.Relation{}) || e != want {
			t.Errorf("Parse(%.40q) = %v, %d", s, got, e)
		}
	}
	if got, e := relation.Parse("cuts cuts " + longest); got != (api.Relation{Kind: api.Cuts, Upper: "cuts", Lower: longest}) || e != api.OK {
		t.Errorf("Parse = %v, %d", got, e)
	}
}

func TestTextLaws(t *testing.T) {
	r := rand.New(rand.NewSource(4))
	for range 200 {
		for _, x := range anyList(r, 12) {
			s, e := relation.Text(x)
			if back, f := relation.Parse(s); back != x || e != api.OK || f != api.OK {
				t.Fatalf("Text(%v) = %q, %d, and Parse = %v, %d", x, s, e, back, f)
			}
		}
	}
}
