package relation

import (
	"cmp"
	"slices"

	"klippe/api"
)

// compare orders relations by their kind, then by their units.
func compare(a, b api.Relation) int {
	return cmp.Or(cmp.Compare(a.Kind, b.Kind), cmp.Compare(a.Upper, b.Upper), cmp.Compare(a.Lower, b.Lower))
}

// compareArcs orders arcs by where they begin, then by where they end.
func compareArcs(a, b Arc) int {
	return cmp.Or(cmp.Compare(a.Lower, b.Lower), cmp.Compare(a.Upper, b.Upper))
}

// Normal returns the normal form of a list.
func Normal(l []api.Relation) ([]api.Relation, api.Errno) {
	if e := CheckAll(l); e != api.OK {
		return nil, e
	}
	normal := slices.Clone(l)
	for i, x := range normal {
		if x.Kind == api.Against && x.Lower < x.Upper {
			normal[i].Upper, normal[i].Lower = x.Lower, x.Upper
		}
	}
	slices.SortFunc(normal, compare)
	return slices.Compact(normal), api.OK
}

// Units returns the units that occur.
func Units(l []api.Relation) ([]string, api.Errno) {
	if e := CheckAll(l); e != api.OK {
		return nil, e
	}
	var units []string
	for _, x := range l {
		units = append(units, x.Upper, x.Lower)
	}
	slices.Sort(units)
	return slices.Compact(units), api.OK
}

// Arcs returns what a list says about ages.
func Arcs(l []api.Relation) ([]Arc, api.Errno) {
	if e := CheckAll(l); e != api.OK {
		return nil, e
	}
	var arcs []Arc
	for _, x := range l {
		if a, is := arc(x); is {
			arcs = append(arcs, a)
		}
	}
	slices.SortFunc(arcs, compareArcs)
	return slices.Compact(arcs), api.OK
}

// Between returns the relations between two units.
func Between(l []api.Relation, a, b string) ([]int, api.Errno) {
	if e := checkWith(l, a, b); e != api.OK {
		return nil, e
	}
	var between []int
	for i, x := range l {
		if a != b && has(x, a) && has(x, b) {
			between = append(between, i)
		}
	}
	return between, api.OK
}

// Opposed returns the pairs that contradict each other.
func Opposed(l []api.Relation) ([][2]int, api.Errno) {
	if e := CheckAll(l); e != api.OK {
		return nil, e
	}
	var pairs [][2]int
	for i := range l {
		for j := i + 1; j < len(l); j++ {
			if areOpposed(l[i], l[j]) {
				pairs = append(pairs, [2]int{i, j})
			}
		}
	}
	return pairs, api.OK
}

func areOpposed(x, y api.Relation) bool {
	there, is := arc(x)
	back, isBack := arc(y)
	return is && isBack && there == Arc{back.Upper, back.Lower}
}

// Rename gives another name to a unit.
func Rename(l []api.Relation, from, to string) ([]api.Relation, api.Errno) {
	if e := checkWith(l, from, to); e != api.OK {
		return nil, e
	}
	rename := func(unit *string) {
		if *unit == from {
			*unit = to
		}
	}
	renamed := slices.Clone(l)
	for i := range renamed {
		rename(&renamed[i].Upper)
		rename(&renamed[i].Lower)
	}
	// The list was right, so a relation can only have become one of a unit with itself.
	if e := firstError(renamed); e != api.OK {
		return nil, e
	}
	return renamed, api.OK
}

// Without leaves out a unit.
func Without(l []api.Relation, unit string) ([]api.Relation, api.Errno) {
	if e := checkWith(l, unit); e != api.OK {
		return nil, e
	}
	return slices.DeleteFunc(slices.Clone(l), func(x api.Relation) bool { return has(x, unit) }), api.OK
}
