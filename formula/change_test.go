package formula_test

import (
	"slices"
	"testing"

	"bombarde/api"
	"bombarde/formula"
)

// scrub overwrites the inputs of all nodes of a formula, from below.
func scrub(f tree) {
	for i := range f.In {
		scrub(f.In[i])
		f.In[i] = tree{Kind: -5, Arg: i}
	}
}

// lists returns the lists of inputs of a formula that are not empty, by their first elements.
func lists(f tree) []*tree {
	if len(f.In) == 0 {
		return nil
	}
	l := []*tree{&f.In[0]}
	for _, in := range f.In {
		l = append(l, lists(in)...)
	}
	return l
}

// own checks that the lists of a result are its own: none is there twice, and none is that of an argument.
func own(t *testing.T, result tree, arguments ...tree) {
	t.Helper()
	seen := map[*tree]bool{}
	for _, f := range arguments {
		for _, l := range lists(f) {
			seen[l] = true
		}
	}
	for _, l := range lists(result) {
		if seen[l] {
			t.Errorf("the result %v shares a list", result)
			return
		}
		seen[l] = true
	}
}

// P4.3
func TestSubstitute(t *testing.T) {
	for _, c := range []struct {
		f        string
		variable int
		by, want string
	}{
		{"&(x0 !x1 x0)", 0, "|(x0 x2)", "&(|(x0 x2) !x1 |(x0 x2))"},
		{"x3", 3, "x4", "x4"},
		{"x3", 4, "x5", "x3"},
		{"!x3", 3, "!x3", "!!x3"},
		{"&()", 0, "x1", "&()"},
		{"|(x1 0 1)", 1, "0", "|(0 0 1)"},
		{"&(&(x4095))", 4095, "&()", "&(&(&()))"},
	} {
		f, by := parse(t, c.f), parse(t, c.by)
		got, e := formula.Substitute(f, c.variable, by)
		if e != api.OK || text(t, got) != c.want || text(t, f) != c.f || text(t, by) != c.by {
			t.Errorf("Substitute(%s, %d, %s) = %v, %d", c.f, c.variable, c.by, got, e)
		}
		own(t, got, f, by)
		scrub(got)
		if text(t, f) != c.f || text(t, by) != c.by {
			t.Errorf("Substitute(%s, %d, %s) shares memory", c.f, c.variable, c.by)
		}
	}
}

// P4.3 and P4.7: the value of the result is the value with that of the other formula for the variable.
func TestSubstituteValues(t *testing.T) {
	l := randoms()
	for i, f := range l {
		variable, by := i%4, l[(7*i+1)%len(l)]
		got, e := formula.Substitute(f, variable, by)
		if e != api.OK {
			t.Fatalf("Substitute(%v, %d, %v) = %d", f, variable, by, e)
		}
		own(t, got, f, by)
		support, _ := formula.Support(f)
		if !slices.Contains(support, variable) && !formula.Equal(got, f) {
			t.Errorf("%v became %v without the variable %d", f, got, variable)
		}
		for _, row := range rows(4) {
			changed := slices.Clone(row)
			changed[variable] = value(by, row)
			if value(got, row) != value(f, changed) {
				t.Errorf("Substitute(%v, %d, %v) = %v", f, variable, by, got)
			}
		}
	}
}

// P4.3
func TestRestrict(t *testing.T) {
	f := parse(t, "&(x0 !x1 |(x2 x0))")
	for b, want := range map[bool]string{false: "&(0 !x1 |(x2 0))", true: "&(1 !x1 |(x2 1))"} {
		got, e := formula.Restrict(f, 0, b)
		if e != api.OK || text(t, got) != want {
			t.Errorf("Restrict to %t = %v, %d", b, got, e)
		}
		own(t, got, f)
	}
	for i, f := range randoms() {
		variable := i % 4
		no, e := formula.Restrict(f, variable, false)
		yes, g := formula.Restrict(f, variable, true)
		if e != api.OK || g != api.OK {
			t.Fatalf("Restrict(%v, %d) = %d, %d", f, variable, e, g)
		}
		own(t, no, f)
		own(t, yes, f)
		for _, row := range rows(4) {
			without, with := slices.Clone(row), slices.Clone(row)
			without[variable], with[variable] = false, true
			if value(no, row) != value(f, without) || value(yes, row) != value(f, with) {
				t.Errorf("Restrict(%v, %d) = %v, %v", f, variable, no, yes)
			}
		}
	}
}

// P4.3
func TestErrorsOfSubstitute(t *testing.T) {
	for _, n := range []int{-1, formula.MaxVariables, -1 << 63, 1<<63 - 1} {
		f, e := formula.Substitute(v(0), n, v(1))
		g, h := formula.Restrict(v(0), n, true)
		if e != api.ErrRange || h != api.ErrRange || !formula.Equal(f, tree{}) || !formula.Equal(g, tree{}) {
			t.Errorf("the variable %d: %d, %d", n, e, h)
		}
	}
	// 99 variables and 101 nodes for each are 9999 nodes and one more; the variable of a formula with 51 levels has 50 above it.
	for _, c := range []struct {
		f, by tree
		want  api.Errno
	}{
		{wide(100), wide(101), api.OK},
		{wide(100), wide(102), api.ErrLimit},
		{wide(10_000), wide(10_000), api.ErrLimit},
		{nested(51), nested(50), api.OK},
		{nested(51), nested(51), api.ErrLimit},
		{nested(100), v(1), api.OK},
		{nested(100), not(v(1)), api.ErrLimit},
		{and(nested(2), v(1)), nested(98), api.OK},
		{and(nested(2), v(1)), nested(99), api.ErrLimit},
	} {
		f, e := formula.Substitute(c.f, 0, c.by)
		if e != c.want || (e == api.OK) != (formula.Check(f) == api.OK) || e != api.OK && !formula.Equal(f, tree{}) {
			t.Errorf("Substitute = %d, not %d", e, c.want)
		}
	}
	if _, e := formula.Substitute(wide(10_000), -1, wide(10_000)); e != api.ErrRange {
		t.Errorf("a variable before the limit: %d", e)
	}
}

// naiveNormal is the definition of the negation normal form.
func naiveNormal(f tree) tree {
	g := tree{Kind: f.Kind, Arg: f.Arg}
	negate := func(in tree) tree { return in }
	if f.Kind == api.Not {
		below := f.In[0]
		switch below.Kind {
		case api.Var:
			return f
		case api.False, api.True:
			return constant(below.Kind == api.False)
		case api.Not:
			return naiveNormal(below.In[0])
		}
		g.Kind = api.And + api.Or - below.Kind
		f, negate = below, not
	}
	for _, in := range f.In {
		g.In = append(g.In, naiveNormal(negate(in)))
	}
	return g
}

// P4.4
func TestNormal(t *testing.T) {
	for s, want := range map[string]string{
		"!&(x0 !x1 1)": "|(!x0 x1 0)", "x7": "x7", "!x7": "!x7", "!!x7": "x7", "!!!x7": "!x7", "!0": "1", "!1": "0", "0": "0", "1": "1", "!&()": "|()", "!|()": "&()",
		"&(x0 1 &(x0))": "&(x0 1 &(x0))", "!|(&(x0 !!x1) !|(x2 x2))": "&(|(!x0 !x1) |(x2 x2))",
	} {
		f := parse(t, s)
		got, e := formula.Normal(f)
		if e != api.OK || text(t, got) != want || text(t, f) != s {
			t.Errorf("Normal(%s) = %v, %d", s, got, e)
		}
		own(t, got, f)
	}
	for _, f := range randoms() {
		got, e := formula.Normal(f)
		again, g := formula.Normal(got)
		if e != api.OK || g != api.OK || !formula.Equal(got, naiveNormal(f)) || !formula.Equal(again, got) || !same(f, got) {
			t.Errorf("Normal(%v) = %v, %d", f, got, e)
		}
		own(t, got, f)
	}
	// A negated variable is two nodes: 5000 of them, and their list, are 10001.
	var l []tree
	for range 5000 {
		l = append(l, v(1))
	}
	if f, e := formula.Normal(not(and(l...))); e != api.ErrLimit || !formula.Equal(f, tree{}) {
		t.Errorf("the normal form with 10001 nodes: %d", e)
	}
	if f, e := formula.Normal(not(and(l[1:]...))); e != api.OK || len(f.In) != 4999 {
		t.Errorf("the normal form with 9999 nodes: %d", e)
	}
	if f, e := formula.Normal(nested(100)); e != api.OK || text(t, f) != "!x0" {
		t.Errorf("the normal form of 100 levels: %v, %d", f, e)
	}
}

// naiveSimple is the definition of the simplified form.
func naiveSimple(f tree) tree {
	switch f.Kind {
	case api.Not:
		g := naiveSimple(f.In[0])
		switch g.Kind {
		case api.False, api.True:
			return constant(g.Kind == api.False)
		case api.Not:
			return g.In[0]
		}
		return not(g)
	case api.And, api.Or:
		deciding, idle := constant(f.Kind == api.Or), constant(f.Kind == api.And)
		var list, left []tree
		for _, in := range f.In {
			if g := naiveSimple(in); g.Kind == f.Kind {
				list = append(list, g.In...)
			} else {
				list = append(list, g)
			}
		}
		for _, g := range list {
			has := func(h tree) bool {
				return slices.ContainsFunc(list, func(in tree) bool { return formula.Equal(in, h) })
			}
			if formula.Equal(g, deciding) || has(not(g)) {
				return deciding
			}
		}
		for _, g := range list {
			if !formula.Equal(g, idle) && !slices.ContainsFunc(left, func(in tree) bool { return formula.Equal(in, g) }) {
				left = append(left, g)
			}
		}
		switch len(left) {
		case 0:
			return idle
		case 1:
			return left[0]
		}
		return tree{Kind: f.Kind, In: left}
	}
	return f
}

// P4.4
func TestSimplify(t *testing.T) {
	for s, want := range map[string]string{
		"!&(x0 !x1 1)": "!&(x0 !x1)", "&(x1 |(x2) !!x1 1)": "&(x1 x2)", "|(x0 !x0)": "1", "&(x0 !x0)": "0", "&()": "1", "|()": "0",
		"x3": "x3", "0": "0", "1": "1", "!0": "1", "!1": "0", "!!!x0": "!x0", "&(x0)": "x0", "&(x0 x0)": "x0", "&(1 1)": "1", "|(0 0)": "0", "&(x0 0)": "0", "|(x0 1)": "1",
		"&(x0 &(x1 x0) &(&(x2) x1))": "&(x0 x1 x2)", "|(x0 |(x1 x0) |(|(x2) x1))": "|(x0 x1 x2)", "&(x0 |(x1 x2))": "&(x0 |(x1 x2))",
		"&(|(x0 x1) !|(x0 x1))": "0", "|(!&(x0 x1) &(x0 x1))": "1", "&(|(x0 x1) !x0 !|(x0 x1))": "0", "|(!&(x0 x1) x2 !&(x0 x1))": "|(!&(x0 x1) x2)",
		// What comes out of an input has its inputs at its own place.
		"&(x3 |(&(x2 x1)) x1)": "&(x3 x2 x1)", "|(!x1 &(x2 |(x1)) x1)": "1", "&(x0 x1 |(x0 &(!x0 1)))": "&(x0 x1)", "&(x0 !&(x1 x0))": "&(x0 !&(x1 x0))",
		"&(x1 &(x2 x3) !&(x2 x3))": "&(x1 x2 x3 !&(x2 x3))", "&(x12 x1 x2)": "&(x12 x1 x2)",
	} {
		f := parse(t, s)
		got, e := formula.Simplify(f)
		if e != api.OK || text(t, got) != want || text(t, f) != s {
			t.Errorf("Simplify(%s) = %v, %d, not %s", s, got, e, want)
		}
		own(t, got, f)
	}
	for _, f := range randoms() {
		got, e := formula.Simplify(f)
		again, g := formula.Simplify(got)
		if e != api.OK || g != api.OK || !formula.Equal(got, naiveSimple(f)) || !formula.Equal(again, got) || !same(f, got) {
			t.Errorf("Simplify(%v) = %v, %d, not %v", f, got, e, naiveSimple(f))
		}
		own(t, got, f)
	}
	var l []tree
	for n := range 4096 {
		l = append(l, v(n))
	}
	f := and(and(l...), and(l...))
	if got, e := formula.Simplify(f); e != api.OK || !formula.Equal(got, and(l...)) {
		t.Errorf("Simplify of all variables, twice: %d", e)
	}
	if got, e := formula.Simplify(and(and(l...), or(not(v(4095))))); e != api.OK || !formula.Equal(got, constant(false)) {
		t.Errorf("Simplify of all variables, and not the last one: %d", e)
	}
}
