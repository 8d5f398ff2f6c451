package formula

import "bombarde/api"

// Substitute puts a formula in place of a variable.
func Substitute(f Formula, variable int, by Formula) (Formula, api.Errno) {
	if e := checkAll(f, by); e != api.OK {
		return Formula{}, e
	}
	if !isVariable(variable) {
		return Formula{}, api.ErrRange
	}
	return result(put(f, variable, by))
}

// Restrict puts a value in place of a variable.
func Restrict(f Formula, variable int, value bool) (Formula, api.Errno) {
	if value {
		return Substitute(f, variable, Formula{Kind: api.True})
	}
	return Substitute(f, variable, Formula{Kind: api.False})
}

// put returns a formula with another one in place of a variable.
func put(f Formula, variable int, by Formula) Formula {
	if f.Kind == api.Var && f.Arg == variable {
		return by
	}
	in := each(f.In, func(in Formula) Formula { return put(in, variable, by) })
	return Formula{Kind: f.Kind, Arg: f.Arg, In: in}
}

// each returns what a function makes of the formulas of a list.
func each(l []Formula, change func(Formula) Formula) []Formula {
	var changed []Formula
	for _, f := range l {
		changed = append(changed, change(f))
	}
	return changed
}

// result returns a formula that was made, in memory of its own, or ErrLimit if it is too great.
func result(f Formula) (Formula, api.Errno) {
	if tooGreat(f) {
		return Formula{}, api.ErrLimit
	}
	return clone(f), api.OK
}

// clone returns a copy of a formula, none of whose lists share memory.
func clone(f Formula) Formula {
	return Formula{Kind: f.Kind, Arg: f.Arg, In: each(f.In, clone)}
}

// Normal moves negations to the variables.
func Normal(f Formula) (Formula, api.Errno) {
	if e := Check(f); e != api.OK {
		return Formula{}, e
	}
	return result(normal(f, false))
}

// normal returns the negation normal form of a formula, or of its negation.
func normal(f Formula, negated bool) Formula {
	switch f.Kind {
	case api.Not:
		return normal(f.In[0], !negated)
	case api.And, api.Or:
		in := each(f.In, func(in Formula) Formula { return normal(in, negated) })
		return Formula{Kind: dual(f.Kind, negated), In: in}
	case api.Var:
		if negated {
			return Formula{Kind: api.Not, In: []Formula{f}}
		}
		return f
	}
	return Formula{Kind: dual(f.Kind, negated)}
}

// dual returns the kind that takes the place of a list or of a constant, if what it stands for is negated.
func dual(kind int, negated bool) int {
	if !negated {
		return kind
	}
	switch kind {
	case api.And:
		return api.Or
	case api.Or:
		return api.And
	case api.False:
		return api.True
	}
	return api.False
}

// Simplify leaves out what is not needed.
func Simplify(f Formula) (Formula, api.Errno) {
	if e := Check(f); e != api.OK {
		return Formula{}, e
	}
	return result(simplify(f))
}

// simplify returns the simplified form of a formula.
func simplify(f Formula) Formula {
	switch f.Kind {
	case api.Not:
		return negation(simplify(f.In[0]))
	case api.And:
		return join(f.Kind, api.False, flat(f))
	case api.Or:
		return join(f.Kind, api.True, flat(f))
	}
	return f
}

// negation returns the negation of a simplified form.
func negation(f Formula) Formula {
	switch f.Kind {
	case api.False, api.True:
		return Formula{Kind: dual(f.Kind, true)}
	case api.Not:
		return f.In[0]
	}
	return Formula{Kind: api.Not, In: []Formula{f}}
}

// flat returns the simplified forms of the inputs of a list, where those of its own kind are replaced by their inputs.
func flat(f Formula) []Formula {
	var l []Formula
	for _, in := range f.In {
		g := simplify(in)
		if g.Kind == f.Kind {
			l = append(l, g.In...)
		} else {
			l = append(l, g)
		}
	}
	return l
}

// join returns the simplified form of a list of simplified forms: deciding is the constant that decides it, the other one can be left out.
func join(kind, deciding int, l []Formula) Formula {
	idle := dual(deciding, true)
	var kept []Formula
	// Formulas are equal exactly if their texts are.
	there := map[string]bool{}
	for _, f := range l {
		if f.Kind == deciding {
			return Formula{Kind: deciding}
		}
		if t := text(f); f.Kind != idle && !there[t] {
			there[t] = true
			kept = append(kept, f)
		}
	}
	for _, f := range kept {
		if f.Kind == api.Not && there[text(f.In[0])] {
			return Formula{Kind: deciding}
		}
	}
	switch len(kept) {
	case 0:
		return Formula{Kind: idle}
	case 1:
		return kept[0]
	}
	return Formula{Kind: kind, In: kept}
}
