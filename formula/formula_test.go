package formula_test

import (
	"math"
	"math/rand"
	"slices"
	"strings"
	"testing"

	"bombarde/api"
	"bombarde/formula"
)

type tree = formula.Formula

// v, not, and, or and constant make formulas.
func v(n int) tree       { return tree{Kind: api.Var, Arg: n} }
func not(f tree) tree    { return tree{Kind: api.Not, In: []tree{f}} }
func and(l ...tree) tree { return tree{Kind: api.And, In: l} }
func or(l ...tree) tree  { return tree{Kind: api.Or, In: l} }
func constant(b bool) tree {
	if b {
		return tree{Kind: api.True}
	}
	return tree{Kind: api.False}
}

// parse returns the formula of a text that is right.
func parse(t *testing.T, s string) tree {
	t.Helper()
	f, e := formula.Parse(s)
	if e != api.OK {
		t.Fatalf("Parse(%q) = %d", s, e)
	}
	return f
}

// text returns the text of a right formula.
func text(t *testing.T, f tree) string {
	t.Helper()
	s, e := formula.Text(f)
	if e != api.OK {
		t.Fatalf("Text(%v) = %d", f, e)
	}
	return s
}

// nested returns a formula with so many levels.
func nested(levels int) tree {
	f := v(0)
	for range levels - 1 {
		f = not(f)
	}
	return f
}

// wide returns a formula with so many nodes on two levels.
func wide(nodes int) tree {
	var l []tree
	for range nodes - 1 {
		l = append(l, v(0))
	}
	return and(l...)
}

// doubled returns a formula with so many levels, each node of which but the last ones has the next one twice, in a single list: few lists, but many nodes.
func doubled(levels int) tree {
	f := v(0)
	for range levels - 1 {
		f = and(f, f)
	}
	return f
}

// endless returns a formula whose list of inputs contains itself, behind some copies of a variable.
func endless(length int) tree {
	l := make([]tree, length)
	for i := range l {
		l[i] = v(i)
	}
	l[length-1] = tree{Kind: api.And, In: l}
	return l[length-1]
}

// random returns a formula of the variables 0 to variables - 1.
func random(r *rand.Rand, levels, variables int) tree {
	if levels == 1 || r.Intn(6) == 0 {
		if r.Intn(5) == 0 || variables == 0 {
			return constant(r.Intn(2) == 0)
		}
		return v(r.Intn(variables))
	}
	if r.Intn(3) == 0 {
		return not(random(r, levels-1, variables))
	}
	f := tree{Kind: api.And + r.Intn(2)}
	for range r.Intn(4) {
		f.In = append(f.In, random(r, levels-1, variables))
	}
	return f
}

// randoms returns formulas of a few variables.
func randoms() []tree {
	r := rand.New(rand.NewSource(4))
	var l []tree
	for i := range 1500 {
		l = append(l, random(r, 2+i%5, i%5))
	}
	return l
}

// value is the definition of the value of a formula.
func value(f tree, values []bool) bool {
	switch f.Kind {
	case api.Var:
		return values[f.Arg]
	case api.Not:
		return !value(f.In[0], values)
	case api.And:
		return !slices.ContainsFunc(f.In, func(in tree) bool { return !value(in, values) })
	case api.Or:
		return slices.ContainsFunc(f.In, func(in tree) bool { return value(in, values) })
	}
	return f.Kind == api.True
}

// rows returns all lists of so many values.
func rows(variables int) [][]bool {
	if variables == 0 {
		return [][]bool{nil}
	}
	var l [][]bool
	for _, row := range rows(variables - 1) {
		l = append(l, append(slices.Clone(row), false), append(slices.Clone(row), true))
	}
	return l
}

// same reports whether two formulas of four variables have equal values.
func same(a, b tree) bool {
	for _, row := range rows(4) {
		if value(a, row) != value(b, row) {
			return false
		}
	}
	return true
}

// wrong has formulas that are not right, with their errors.
func wrong() map[string]struct {
	f tree
	e api.Errno
} {
	type entry = struct {
		f tree
		e api.Errno
	}
	return map[string]entry{
		"no kind":                      {tree{}, api.ErrKind},
		"kind -1":                      {tree{Kind: -1}, api.ErrKind},
		"kind 7":                       {tree{Kind: 7, Arg: 1}, api.ErrKind},
		"variable -1":                  {v(-1), api.ErrRange},
		"variable too great":           {v(formula.MaxVariables), api.ErrRange},
		"variable of the least int":    {v(math.MinInt), api.ErrRange},
		"range before form":            {tree{Kind: api.Var, Arg: -1, In: []tree{v(0)}}, api.ErrRange},
		"variable with input":          {tree{Kind: api.Var, In: []tree{v(0)}}, api.ErrForm},
		"Not without input":            {tree{Kind: api.Not}, api.ErrForm},
		"Not with two":                 {tree{Kind: api.Not, In: []tree{v(0), v(1)}}, api.ErrForm},
		"Not with Arg":                 {tree{Kind: api.Not, Arg: 1, In: []tree{v(0)}}, api.ErrForm},
		"And with Arg":                 {tree{Kind: api.And, Arg: -1}, api.ErrForm},
		"Or with Arg":                  {tree{Kind: api.Or, Arg: 1, In: []tree{v(0)}}, api.ErrForm},
		"False with Arg":               {tree{Kind: api.False, Arg: 1}, api.ErrForm},
		"True with Arg":                {tree{Kind: api.True, Arg: 1}, api.ErrForm},
		"False with input":             {tree{Kind: api.False, In: []tree{v(0)}}, api.ErrForm},
		"True with input":              {tree{Kind: api.True, In: []tree{v(0)}}, api.ErrForm},
		"form of it before kind of in": {tree{Kind: api.Not, In: []tree{{}, {}}}, api.ErrForm},
		"first input":                  {and(v(0), v(-1), tree{}), api.ErrRange},
		"first input, below":           {and(not(tree{Kind: api.True, Arg: 1}), v(-1)), api.ErrForm},
		"second input":                 {or(v(0), tree{}), api.ErrKind},
		"too many levels":              {nested(101), api.ErrLimit},
		"too many nodes":               {wide(10_001), api.ErrLimit},
		"limit before kind":            {tree{In: wide(10_001).In}, api.ErrLimit},
		"levels of a wrong formula":    {tree{Kind: 9, In: []tree{nested(100)}}, api.ErrLimit},
		"too many nodes of few lists":  {doubled(90), api.ErrLimit},
		"no end":                       {endless(1), api.ErrLimit},
		"no end, wide":                 {endless(40), api.ErrLimit},
	}
}

// P4.1
func TestCheck(t *testing.T) {
	for _, f := range []tree{v(0), v(formula.MaxVariables - 1), not(v(1)), and(), or(), and(v(0)), or(v(0), v(0), not(and())), constant(false), constant(true), nested(100), wide(10_000), doubled(13), {Kind: api.And, In: []tree{}}, {Kind: api.True, In: []tree{}}} {
		if e := formula.Check(f); e != api.OK {
			t.Errorf("Check(%v) = %d", f, e)
		}
	}
	for name, c := range wrong() {
		if e := formula.Check(c.f); e != c.e {
			t.Errorf("%s: Check = %d, not %d", name, e, c.e)
		}
	}
	for _, f := range randoms() {
		if e := formula.Check(f); e != api.OK {
			t.Errorf("Check(%v) = %d", f, e)
		}
	}
}

// P1 and P4.1 to P4.6: each function with formulas returns the error of Check first, with zero values.
func TestErrorsOfCheck(t *testing.T) {
	zero := func(f tree) bool { return formula.Equal(f, tree{}) }
	x := v(0)
	for name, c := range wrong() {
		var got []api.Errno
		add := func(e api.Errno, isZero bool) {
			got = append(got, e)
			if !isZero {
				t.Errorf("%s: the result %d is not zero", name, len(got)-1)
			}
		}
		nodes, levels, e := formula.Size(c.f)
		add(e, nodes == 0 && levels == 0)
		b, e := formula.Value(c.f, nil)
		add(e, !b)
		l, e := formula.Support(c.f)
		add(e, len(l) == 0)
		b, e = formula.Equivalent(c.f, tree{})
		add(e, !b)
		b, e = formula.Equivalent(x, c.f)
		add(e, !b)
		f, e := formula.Substitute(c.f, -1, tree{})
		add(e, zero(f))
		f, e = formula.Substitute(x, -1, c.f)
		add(e, zero(f))
		f, e = formula.Restrict(c.f, -1, true)
		add(e, zero(f))
		f, e = formula.Normal(c.f)
		add(e, zero(f))
		f, e = formula.Simplify(c.f)
		add(e, zero(f))
		s, e := formula.Text(c.f)
		add(e, s == "")
		for i, e := range got {
			if e != c.e {
				t.Errorf("%s: the error %d is %d, not %d", name, i, e, c.e)
			}
		}
	}
}

// P4.1
func TestEqual(t *testing.T) {
	l := []tree{{}, {Kind: 7}, {Kind: 7, Arg: 1}, v(-1), v(0), v(1), not(v(0)), {Kind: api.Not}, and(), or(), and(v(0)), and(v(1)), and(v(0), v(1)), and(v(1), v(0)), and(v(0), v(1), v(1)), or(and(v(0)), v(1)), or(and(v(0), v(1))), {Kind: api.Var, In: []tree{v(0)}}, wide(20_000), nested(30_000), nested(30_001)}
	for i, a := range l {
		for j, b := range l {
			if formula.Equal(a, b) != (i == j) {
				t.Errorf("Equal of %d and %d", i, j)
			}
		}
	}
	if !formula.Equal(tree{Kind: 3, In: []tree{}}, tree{Kind: 3}) || !formula.Equal(not(tree{}), not(tree{In: []tree{}})) {
		t.Error("an empty list is not a nil one")
	}
	long := []tree{v(1), v(1), v(1)}
	if formula.Equal(and(long[:2]...), and(long...)) || !formula.Equal(and(long[:2]...), and(long[1:]...)) {
		t.Error("parts of one list")
	}
	if !formula.Equal(wide(20_000), wide(20_000)) || !formula.Equal(nested(60_000), nested(60_000)) {
		t.Error("great formulas")
	}
	random := randoms()
	for _, f := range random {
		for _, g := range random[:40] {
			if formula.Equal(f, g) != (text(t, f) == text(t, g)) {
				t.Errorf("Equal(%v, %v)", f, g)
			}
		}
	}
}

// P1: lists that are shared, or contain themselves, do not keep Equal from ending.
func TestEqualEnds(t *testing.T) {
	a, b := doubled(200), doubled(200)
	if !formula.Equal(a, b) || !formula.Equal(a, a) || formula.Equal(a, doubled(199)) {
		t.Error("formulas of 200 levels")
	}
	if f := endless(1); !formula.Equal(f, and(f)) || formula.Equal(f, and(and())) {
		t.Error("a formula without end, and its input")
	}
	for _, n := range []int{1, 2, 9} {
		a, b := endless(n), endless(n)
		if !formula.Equal(a, a) || !formula.Equal(a, b) || formula.Equal(a, endless(n+1)) || formula.Equal(a, not(a)) {
			t.Errorf("formulas without end, %d", n)
		}
	}
}

// P4.1
func TestSize(t *testing.T) {
	for s, want := range map[string][2]int{"&(x0 !x1 |(x2 x0))": {7, 3}, "x5": {1, 1}, "0": {1, 1}, "&()": {1, 1}, "!x0": {2, 2}, "|(&(x0) !!x0 1)": {7, 4}} {
		nodes, levels, e := formula.Size(parse(t, s))
		if [2]int{nodes, levels} != want || e != api.OK {
			t.Errorf("Size(%s) = %d, %d, %d", s, nodes, levels, e)
		}
	}
	for _, c := range []struct {
		f             tree
		nodes, levels int
	}{{nested(100), 100, 100}, {wide(10_000), 10_000, 2}, {doubled(13), 8191, 13}} {
		if nodes, levels, e := formula.Size(c.f); nodes != c.nodes || levels != c.levels || e != api.OK {
			t.Errorf("Size = %d, %d, %d, not %d, %d", nodes, levels, e, c.nodes, c.levels)
		}
	}
}

// P4.2
func TestValue(t *testing.T) {
	f := parse(t, "&(x0 !x1 |(x2 x0))")
	if b, e := formula.Value(f, []bool{true, false, false}); !b || e != api.OK {
		t.Errorf("the example is %t, %d", b, e)
	}
	for _, f := range randoms() {
		for _, row := range rows(4) {
			if b, e := formula.Value(f, row); b != value(f, row) || e != api.OK {
				t.Errorf("Value(%v, %t) = %t, %d", f, row, b, e)
			}
		}
	}
	for s, want := range map[string]bool{"&()": true, "|()": false, "1": true, "0": false, "!0": true, "&(1 0)": false, "|(0 1)": true} {
		if b, e := formula.Value(parse(t, s), nil); b != want || e != api.OK {
			t.Errorf("Value(%s) = %t, %d", s, b, e)
		}
	}
	// A variable that cannot matter needs a value, too.
	for _, s := range []string{"x2", "&(0 x2)", "|(1 x2)", "|(x0 &(!x0 !x2))", "!x2"} {
		if b, e := formula.Value(parse(t, s), []bool{true, true}); b || e != api.ErrSize {
			t.Errorf("Value(%s) of two = %t, %d", s, b, e)
		}
		if _, e := formula.Value(parse(t, s), []bool{true, true, false}); e != api.OK {
			t.Errorf("Value(%s) of three: %d", s, e)
		}
	}
}

// P4.2
func TestSupport(t *testing.T) {
	for s, want := range map[string][]int{"&(x0 !x1 |(x2 x0))": {0, 1, 2}, "1": nil, "|()": nil, "&(x4095 x7 !x7 x0)": {0, 7, 4095}, "|(x3 1)": {3}} {
		if l, e := formula.Support(parse(t, s)); !slices.Equal(l, want) || e != api.OK {
			t.Errorf("Support(%s) = %d, %d", s, l, e)
		}
	}
	for _, f := range randoms() {
		s := text(t, f)
		var want []int
		for n := range 5 {
			if strings.Contains(s, "x"+string(rune('0'+n))) {
				want = append(want, n)
			}
		}
		if l, e := formula.Support(f); !slices.Equal(l, want) || e != api.OK {
			t.Errorf("Support(%s) = %d, %d", s, l, e)
		}
	}
}

// P4.6
func TestEquivalent(t *testing.T) {
	l := randoms()[:120]
	for _, a := range l {
		for _, b := range l {
			if got, e := formula.Equivalent(a, b); got != same(a, b) || e != api.OK {
				t.Errorf("Equivalent(%v, %v) = %t, %d", a, b, got, e)
			}
		}
	}
	var first, last, other []tree
	for n := range 12 {
		first, last, other = append(first, v(n)), append(last, v(4095-300*n)), append(other, v(n+1))
	}
	// Functions of 12 variables that differ in one row only: the last one, or the first one.
	for _, c := range []struct {
		a, b tree
		want bool
	}{
		{and(last...), and(last...), true},
		{and(last...), constant(false), false},
		{or(last...), constant(true), false},
		{and(first[:11]...), and(first...), false},
		{or(first...), or(first[1:]...), false},
		{not(and(first...)), or(not(first[0]), not(and(first[1:]...))), true},
		{and(first[:6]...), and(first[:7]...), false},
		{v(0), v(4095), false},
	} {
		if got, e := formula.Equivalent(c.a, c.b); got != c.want || e != api.OK {
			t.Errorf("Equivalent(%s, %s) = %t, %d", text(t, c.a), text(t, c.b), got, e)
		}
	}
	// Together they have 13 variables.
	for _, c := range [][2]tree{{and(first...), and(other...)}, {and(append(first, v(99))...), constant(false)}, {v(4000), or(first...)}} {
		if got, e := formula.Equivalent(c[0], c[1]); got || e != api.ErrLimit {
			t.Errorf("Equivalent(%s, %s) = %t, %d", text(t, c[0]), text(t, c[1]), got, e)
		}
	}
}
