package diagram_test

import (
	"math"
	"math/rand"
	"slices"
	"testing"

	"bombarde/api"
	"bombarde/diagram"
	"bombarde/formula"
)

// names has the variables of the functions that are combined.
func names() []int { return []int{0, 9, formula.MaxVariables - 1} }

// P8.3, P8.5 and P8.7: all pairs of functions of three variables.
func TestPairs(t *testing.T) {
	all := truths(3)
	diagrams := make([]diag, len(all))
	for i, f := range all {
		diagrams[i] = naive(f, names())
		if e := diagram.Check(diagrams[i]); e != api.OK {
			t.Fatalf("Check(%v) = %d", diagrams[i], e)
		}
	}
	// The bits of the number of a function are its values.
	for i, a := range diagrams {
		not, e := diagram.Not(a)
		again, f := diagram.Not(not)
		if e != api.OK || f != api.OK || !same(not, diagrams[255-i]) || !same(again, a) {
			t.Errorf("Not(%v) = %v, %d", a, not, e)
		}
		for k, b := range diagrams {
			and, e := diagram.And(a, b)
			or, f := diagram.Or(a, b)
			is, g := diagram.Implies(a, b)
			if e != api.OK || !same(and, diagrams[i&k]) {
				t.Errorf("And(%v, %v) = %v, %d", a, b, and, e)
			}
			if f != api.OK || !same(or, diagrams[i|k]) {
				t.Errorf("Or(%v, %v) = %v, %d", a, b, or, f)
			}
			if g != api.OK || is != (i&^k == 0) {
				t.Errorf("Implies(%v, %v) = %t, %d", a, b, is, g)
			}
			c := (i*31 + k*7) % 256
			choice, e := diagram.Choose(a, b, diagrams[c])
			if e != api.OK || !same(choice, diagrams[i&k|c&^i]) {
				t.Errorf("Choose(%v, %v, %v) = %v, %d", a, b, diagrams[c], choice, e)
			}
		}
	}
}

// P8.4 and P8.7
func TestRestrict(t *testing.T) {
	for _, f := range truths(3) {
		d := naive(f, names())
		for i, variable := range names() {
			bit := 1 << (2 - i)
			no, e1 := diagram.Restrict(d, variable, false)
			yes, e2 := diagram.Restrict(d, variable, true)
			some, e3 := diagram.Exists(d, variable)
			wantNo := with(3, func(at int) bool { return f[at&^bit] })
			wantYes := with(3, func(at int) bool { return f[at|bit] })
			want := with(3, func(at int) bool { return f[at&^bit] || f[at|bit] })
			if e1 != api.OK || e2 != api.OK || !same(no, naive(wantNo, names())) || !same(yes, naive(wantYes, names())) {
				t.Errorf("Restrict(%v, %d) = %v, %d, and %v, %d", d, variable, no, e1, yes, e2)
			}
			if e3 != api.OK || !same(some, naive(want, names())) {
				t.Errorf("Exists(%v, %d) = %v, %d", d, variable, some, e3)
			}
			literal, _ := diagram.Literal(variable, true)
			if whole, e := diagram.Choose(literal, yes, no); e != api.OK || !same(whole, d) {
				t.Errorf("%v is not the choice of %v and %v by %d", d, yes, no, variable)
			}
		}
		// What does not occur changes nothing.
		for _, variable := range []int{1, 10, 4094} {
			no, e := diagram.Restrict(d, variable, false)
			some, f := diagram.Exists(d, variable)
			if e != api.OK || f != api.OK || !same(no, d) || !same(some, d) {
				t.Errorf("%v became %v, and %v without the variable %d", d, no, some, variable)
			}
		}
	}
	for _, variable := range []int{-1, formula.MaxVariables, math.MinInt, math.MaxInt} {
		no, e := diagram.Restrict(diag{Root: 1}, variable, false)
		some, f := diagram.Exists(diag{Root: 1}, variable)
		if e != api.ErrRange || f != api.ErrRange || !zero(no) || !zero(some) {
			t.Errorf("the variable %d: %d, %d", variable, e, f)
		}
	}
}

// P8.3, P8.4 and P8.7: functions of more variables.
func TestMore(t *testing.T) {
	r := rand.New(rand.NewSource(9))
	names := []int{0, 1, 2, 3, 4, 5, 6, 7}
	some := func() truth {
		few := 1 + r.Intn(8)
		part := make([]bool, 1<<few)
		for i := range part {
			part[i] = r.Intn(3) == 0
		}
		// Only some variables count, so that not all diagrams have all of them.
		mask := r.Intn(256)
		return with(8, func(at int) bool { return part[(at&mask)%len(part)] })
	}
	for range 300 {
		f, g, h := some(), some(), some()
		a, b, c := naive(f, names), naive(g, names), naive(h, names)
		and, e1 := diagram.And(a, b)
		or, e2 := diagram.Or(a, b)
		choice, e3 := diagram.Choose(a, b, c)
		exists, e4 := diagram.Exists(a, 3)
		is, e5 := diagram.Implies(and, or)
		for i, want := range []truth{
			with(8, func(at int) bool { return f[at] && g[at] }),
			with(8, func(at int) bool { return f[at] || g[at] }),
			with(8, func(at int) bool { return f[at] && g[at] || !f[at] && h[at] }),
			with(8, func(at int) bool { return f[at&^16] || f[at|16] }),
		} {
			if got := []diag{and, or, choice, exists}[i]; !same(got, naive(want, names)) {
				t.Errorf("the function %d of %v, %v and %v = %v", i, a, b, c, got)
			}
		}
		if e1 != api.OK || e2 != api.OK || e3 != api.OK || e4 != api.OK || e5 != api.OK || !is {
			t.Errorf("%d, %d, %d, %d, %d, %t", e1, e2, e3, e4, e5, is)
		}
	}
}

// P1 and P8.1 to P8.4: diagrams with as many nodes as there can be.
func TestLimit(t *testing.T) {
	d := full(t, 0)
	literal, _ := diagram.Literal(0, true)
	if e := diagram.Check(d); e != api.OK || len(d.Nodes) != diagram.MaxNodes {
		t.Fatalf("Check of %d nodes = %d", len(d.Nodes), e)
	}
	for i, combine := range []func(a, b diag) (diag, api.Errno){
		diagram.And, diagram.Or,
		func(a, b diag) (diag, api.Errno) { return diagram.Choose(b, a, diagram.Constant(false)) },
		func(a, b diag) (diag, api.Errno) { return diagram.Choose(a, b, diagram.Constant(true)) },
	} {
		if got, e := combine(d, literal); e != api.ErrLimit || !zero(got) {
			t.Errorf("the function %d with a further variable: %d nodes, %d", i, len(got.Nodes), e)
		}
	}
	for i, c := range []struct {
		got  func() (diag, api.Errno)
		want diag
	}{
		{func() (diag, api.Errno) { return diagram.And(d, d) }, d},
		{func() (diag, api.Errno) { return diagram.Or(d, diagram.Constant(false)) }, d},
		{func() (diag, api.Errno) { return diagram.And(d, diagram.Constant(false)) }, diag{}},
		{func() (diag, api.Errno) { return diagram.Or(diagram.Constant(true), d) }, diag{Root: 1}},
		{func() (diag, api.Errno) { return diagram.Choose(literal, d, d) }, d},
		{func() (diag, api.Errno) { return diagram.Exists(d, 0) }, d},
		{func() (diag, api.Errno) { return diagram.Restrict(d, 0, true) }, d},
		{func() (diag, api.Errno) { not, _ := diagram.Not(d); return diagram.Not(not) }, d},
	} {
		if got, e := c.got(); e != api.OK || !same(got, c.want) {
			t.Errorf("%d: %d nodes, %d", i, len(got.Nodes), e)
		}
	}
	// 4 more nodes than 32766, of which And and Or leave 32766, and one for each further variable of the other one.
	less := great(t, 32770)
	other := of(t, "&(x3994 x3995 x3996 x3997 x3998)")
	and, e := diagram.And(less, other)
	or, f := diagram.Or(less, diagram.Constant(false))
	if e != api.OK || f != api.OK || len(and.Nodes) != 32772 || !same(or, less) {
		t.Errorf("And: %d nodes, %d; Or: %d", len(and.Nodes), e, f)
	}
	not, _ := diagram.Not(less)
	none, e := diagram.And(less, not)
	all, f := diagram.Or(less, not)
	if e != api.OK || f != api.OK || !zero(none) || !same(all, diag{Root: 1}) {
		t.Errorf("And: %v, %d; Or: %v, %d", none, e, all, f)
	}
}

// P8.5: a result that is no diagram has no limit, also if a diagram that could lead to it would have too many nodes.
func TestImplies(t *testing.T) {
	a, b := of(t, pairs(13)), of(t, pairs(13))
	for i := range a.Nodes {
		a.Nodes[i].Variable *= 2
		b.Nodes[i].Variable = 2*b.Nodes[i].Variable + 1
	}
	if _, e := diagram.Or(a, b); e != api.ErrLimit {
		t.Errorf("Or = %d", e)
	}
	if is, e := diagram.Implies(a, b); is || e != api.OK {
		t.Errorf("Implies = %t, %d", is, e)
	}
	for _, c := range []struct {
		a, b string
		want bool
	}{
		{pairs(13), list("|", 13, x), true},
		{list("|", 13, x), pairs(13), false},
		{list("&", 26, x), pairs(13), true},
		{"&(" + list("&", 13, x) + " x13)", pairs(13), true},
		{list("&", 13, x), pairs(13), false},
		{"0", pairs(13), true}, {pairs(13), "0", false}, {pairs(13), "1", true}, {"1", pairs(13), false},
		{"x5", "x6", false}, {"x6", "x5", false}, {"&(x5 x6)", "x6", true}, {"x6", "|(x5 x6)", true}, {"!x5", "x5", false},
	} {
		if is, e := diagram.Implies(of(t, c.a), of(t, c.b)); is != c.want || e != api.OK {
			t.Errorf("Implies(%.30s, %.30s) = %t, %d", c.a, c.b, is, e)
		}
	}
}

// equals returns the formula that is true if n variables, every second one from a first one on, are equal to the n variables from 2 n on.
func equals(n, first int) string {
	return list("&", n, func(i int) string {
		a, b := x(first+2*i), x(2*n+i)
		return "|(&(" + a + " " + b + ") &(!" + a + " !" + b + "))"
	})
}

// P1 and P8.3: more combinations of places than are kept, with few nodes in the result: two lists of ten variables are equal to a third one.
func TestProduct(t *testing.T) {
	const n = 10
	a, b := of(t, equals(n, 0)), of(t, equals(n, 1))
	and, e := diagram.And(a, b)
	// After each pair of variables there are twice as many lists that can still be equal, and for each pair two nodes that see the other one; behind the pairs the third list follows.
	if want := 3*(1<<n-1) + 2*(1<<n-1); e != api.OK || len(and.Nodes) != want || diagram.Check(and) != api.OK {
		t.Fatalf("And: %d nodes, %d, not %d", len(and.Nodes), e, want)
	}
	if count, e := diagram.Count(and, 3*n); e != api.OK || count != "1024" {
		t.Errorf("Count = %s, %d", count, e)
	}
	for _, d := range []diag{a, b} {
		if is, e := diagram.Implies(and, d); !is || e != api.OK {
			t.Errorf("Implies = %t, %d", is, e)
		}
	}
}

// P1: arguments stay as they are, and results are memory of their own.
func TestMemory(t *testing.T) {
	a, b := of(t, "&(x0 |(x1 x2))"), of(t, "|(&(x1 !x2) x3)")
	keptA, keptB := slices.Clone(a.Nodes), slices.Clone(b.Nodes)
	yes := diagram.Constant(true)
	for i, combine := range []func() (diag, api.Errno){
		func() (diag, api.Errno) { return diagram.Not(a) },
		func() (diag, api.Errno) { return diagram.And(a, b) },
		func() (diag, api.Errno) { return diagram.And(a, yes) },
		func() (diag, api.Errno) { return diagram.Or(a, a) },
		func() (diag, api.Errno) { return diagram.Or(diagram.Constant(false), b) },
		func() (diag, api.Errno) { return diagram.Choose(yes, a, b) },
		func() (diag, api.Errno) { return diagram.Choose(a, b, a) },
		func() (diag, api.Errno) { return diagram.Restrict(a, 9, true) },
		func() (diag, api.Errno) { return diagram.Restrict(a, 0, true) },
		func() (diag, api.Errno) { return diagram.Exists(b, 9) },
	} {
		d, e := combine()
		if e != api.OK || len(d.Nodes) == 0 {
			t.Errorf("%d: %v, %d", i, d, e)
		}
		clear(d.Nodes[:cap(d.Nodes)])
		if !slices.Equal(a.Nodes, keptA) || !slices.Equal(b.Nodes, keptB) {
			t.Fatalf("%d: %v, %v", i, a, b)
		}
	}
}
