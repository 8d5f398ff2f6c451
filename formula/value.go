package formula

import (
	"maps"
	"slices"

	"bombarde/api"
)

// Value returns the value for some values of the variables.
func Value(f Formula, values []bool) (bool, api.Errno) {
	if e := Check(f); e != api.OK {
		return false, e
	}
	for _, g := range nodes(f) {
		if g.Kind == api.Var && g.Arg >= len(values) {
			return false, api.ErrSize
		}
	}
	word := evaluate(f, func(variable int) uint64 {
		if values[variable] {
			return 1
		}
		return 0
	})
	return word&1 == 1, api.OK
}

// evaluate returns 64 values of a formula, one in each bit, from those of the variables.
func evaluate(f Formula, value func(variable int) uint64) uint64 {
	const none, all = uint64(0), ^uint64(0)
	word := none
	switch f.Kind {
	case api.Var:
		word = value(f.Arg)
	case api.Not:
		word = ^evaluate(f.In[0], value)
	case api.And:
		word = all
		for _, in := range f.In {
			word &= evaluate(in, value)
		}
	case api.Or:
		for _, in := range f.In {
			word |= evaluate(in, value)
		}
	case api.True:
		word = all
	}
	return word
}

// Support returns the variables that occur, in increasing order.
func Support(f Formula) ([]int, api.Errno) {
	if e := Check(f); e != api.OK {
		return nil, e
	}
	return support(f), api.OK
}

// support returns the variables that occur in one of some formulas, in increasing order.
func support(l ...Formula) []int {
	occurs := map[int]bool{}
	for _, f := range l {
		for _, g := range nodes(f) {
			if g.Kind == api.Var {
				occurs[g.Arg] = true
			}
		}
	}
	return slices.Sorted(maps.Keys(occurs))
}

// Equivalent reports whether two formulas have the same value for all values of the variables.
func Equivalent(a, b Formula) (bool, api.Errno) {
	if e := checkAll(a, b); e != api.OK {
		return false, e
	}
	variables := support(a, b)
	if len(variables) > MaxTable {
		return false, api.ErrLimit
	}
	for first := 0; first < 1<<len(variables); first += 64 {
		words := rows(variables, first)
		value := func(variable int) uint64 { return words[variable] }
		if evaluate(a, value) != evaluate(b, value) {
			return false, api.OK
		}
	}
	return true, api.OK
}

// rows returns the values of some variables in 64 rows of their table, from one row on: bit i of the number of a row is the value of the variable at the place i. Behind the last row the table begins again.
func rows(variables []int, first int) map[int]uint64 {
	words := map[int]uint64{}
	for place, variable := range variables {
		for r := range 64 {
			words[variable] |= uint64((first+r)>>place&1) << r
		}
	}
	return words
}
