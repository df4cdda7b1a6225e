package relation

import (
	"slices"
	"strings"

	"klippe/api"
)

// words has the words of the kinds.
var words = [...]string{api.Overlies: "overlies", api.Cuts: "cuts", api.Intrudes: "intrudes", api.Against: "against"}

// Text returns the text of a relation.
func Text(x api.Relation) (string, api.Errno) {
	if e := Check(x); e != api.OK {
		return "", e
	}
	return x.Upper + " " + words[x.Kind] + " " + x.Lower, api.OK
}

// Parse returns the relation of a text.
func Parse(s string) (api.Relation, api.Errno) {
	// A fourth part is enough to tell that there are too many.
	parts := strings.SplitN(s, " ", 4)
	if len(parts) != 3 || slices.Contains(parts, "") {
		return api.Relation{}, api.ErrSyntax
	}
	kind := kindOf(parts[1])
	if kind == 0 {
		return api.Relation{}, api.ErrSyntax
	}
	x := api.Relation{Kind: kind, Upper: parts[0], Lower: parts[2]}
	if e := Check(x); e != api.OK {
		return api.Relation{}, e
	}
	return x, api.OK
}

// kindOf returns the kind with a word, or 0 if there is none.
func kindOf(word string) int {
	for kind, known := range words {
		if known == word {
			return kind
		}
	}
	return 0
}
