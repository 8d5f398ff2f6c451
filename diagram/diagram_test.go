package diagram_test

import (
	"math"
	"math/rand"
	"slices"
	"strconv"
	"strings"
	"testing"

	"bombarde/api"
	"bombarde/diagram"
	"bombarde/formula"
)

type diag = diagram.Diagram
type node = diagram.Node

// truth has the values of a function for all lists of values of its variables, in lexicographic order.
type truth []bool

// row returns the list of values at a place of the order.
func row(at, variables int) []bool {
	values := make([]bool, variables)
	for i := range values {
		values[i] = at>>(variables-1-i)&1 == 1
	}
	return values
}

// truths returns all functions of some variables.
func truths(variables int) []truth {
	rows := 1 << variables
	var l []truth
	for bits := range 1 << rows {
		f := make(truth, rows)
		for at := range f {
			f[at] = bits>>at&1 == 1
		}
		l = append(l, f)
	}
	return l
}

// with returns the function that a condition makes of the number of each row.
func with(variables int, holds func(at int) bool) truth {
	f := make(truth, 1<<variables)
	for at := range f {
		f[at] = holds(at)
	}
	return f
}

// naive is the definition of the diagram of a function, whose variables have the names of a list.
func naive(f truth, names []int) diag {
	var d diag
	places := map[string]int{}
	var place func(f truth, names []int) int
	place = func(f truth, names []int) int {
		if !slices.Contains(f, !f[0]) {
			return map[bool]int{false: 0, true: 1}[f[0]]
		}
		no, yes := f[:len(f)/2], f[len(f)/2:]
		if slices.Equal(no, yes) {
			return place(no, names[1:])
		}
		var key strings.Builder
		key.WriteString(strconv.Itoa(len(names)))
		for _, value := range f {
			key.WriteString(strconv.FormatBool(value))
		}
		if _, there := places[key.String()]; !there {
			n := node{Variable: names[0], No: place(no, names[1:])}
			n.Yes = place(yes, names[1:])
			d.Nodes = append(d.Nodes, n)
			places[key.String()] = len(d.Nodes) + 1
		}
		return places[key.String()]
	}
	d.Root = place(f, names)
	return d
}

// same reports whether two diagrams have the same nodes and the same Root.
func same(a, b diag) bool { return a.Root == b.Root && slices.Equal(a.Nodes, b.Nodes) }

// zero reports whether a diagram is the zero value.
func zero(d diag) bool { return same(d, diag{}) }

// parse returns the formula of a text that is right.
func parse(t *testing.T, s string) formula.Formula {
	t.Helper()
	f, e := formula.Parse(s)
	if e != api.OK {
		t.Fatalf("Parse(%q) = %d", s, e)
	}
	return f
}

// of returns the diagram of the text of a formula.
func of(t *testing.T, s string) diag {
	t.Helper()
	d, e := diagram.Of(parse(t, s))
	if e != api.OK {
		t.Fatalf("Of(%q) = %d", s, e)
	}
	return d
}

// list returns the text of a formula with some inputs, one for each number.
func list(kind string, n int, input func(i int) string) string {
	var l []string
	for i := range n {
		l = append(l, input(i))
	}
	return kind + "(" + strings.Join(l, " ") + ")"
}

// x returns the text of a variable.
func x(n int) string { return "x" + strconv.Itoa(n) }

// pairs returns the formula that is true if both of a pair of variables are: the one with a number less than n, and the one n numbers higher. Its diagram has 2 to the power of n + 1 nodes, less 2.
func pairs(n int) string {
	return list("|", n, func(i int) string { return "&(" + x(i) + " " + x(i+n) + ")" })
}

// great returns a right diagram with so many nodes, from 32766 to 32766 + 4000, of the variables below 4096.
func great(t *testing.T, nodes int) diag {
	t.Helper()
	d := diag{}
	for _, n := range of(t, pairs(14)).Nodes {
		n.Variable += 4000
		d.Nodes = append(d.Nodes, n)
	}
	for i := len(d.Nodes); i < nodes; i++ {
		d.Nodes = append(d.Nodes, node{Variable: 4000 - (i - 32766) - 1, No: 0, Yes: i + 1})
	}
	d.Root = len(d.Nodes) + 1
	return d
}

// full returns a right diagram with as many nodes as there can be, or some more, of the variables from 1 on.
func full(t *testing.T, more int) diag {
	t.Helper()
	equal := list("&", 14, func(i int) string {
		a, b := x(i), x(i+14)
		return "|(&(" + a + " " + b + ") &(!" + a + " !" + b + "))"
	})
	d := diag{}
	for _, n := range of(t, equal).Nodes {
		n.Variable += 1000
		d.Nodes = append(d.Nodes, n)
	}
	for len(d.Nodes) < diagram.MaxNodes+more {
		last := d.Nodes[len(d.Nodes)-1]
		d.Nodes = append(d.Nodes, node{Variable: last.Variable - 1, No: 0, Yes: len(d.Nodes) + 1})
	}
	d.Root = len(d.Nodes) + 1
	return d
}

// naiveCheck is the definition of the error of a diagram.
func naiveCheck(d diag) api.Errno {
	if len(d.Nodes) > diagram.MaxNodes {
		return api.ErrLimit
	}
	for i, n := range d.Nodes {
		if n.Variable < 0 || n.Variable >= formula.MaxVariables || n.No < 0 || n.No >= i+2 || n.Yes < 0 || n.Yes >= i+2 {
			return api.ErrRange
		}
		if n.No == n.Yes {
			return api.ErrForm
		}
		for _, place := range []int{n.No, n.Yes} {
			if place >= 2 && d.Nodes[place-2].Variable <= n.Variable {
				return api.ErrOrder
			}
		}
		if slices.Contains(d.Nodes[:i], n) {
			return api.ErrDuplicate
		}
	}
	if d.Root < 0 || d.Root >= len(d.Nodes)+2 {
		return api.ErrRange
	}
	if len(d.Nodes) > 0 && d.Root != len(d.Nodes)+1 {
		return api.ErrForm
	}
	var left []int
	var walk func(place int)
	walk = func(place int) {
		if place >= 2 && !slices.Contains(left, place) {
			walk(d.Nodes[place-2].No)
			walk(d.Nodes[place-2].Yes)
			left = append(left, place)
		}
	}
	walk(d.Root)
	for i := range d.Nodes {
		if i >= len(left) || left[i] != i+2 {
			return api.ErrForm
		}
	}
	return api.OK
}

// value returns the value at a place of a right diagram.
func value(d diag, place int, values []bool) bool {
	if place < 2 {
		return place == 1
	}
	n := d.Nodes[place-2]
	if values[n.Variable] {
		return value(d, n.Yes, values)
	}
	return value(d, n.No, values)
}

// P8.1: all diagrams with up to three nodes of two variables; those that are right are one for each function.
func TestCheckAll(t *testing.T) {
	seen := map[string]bool{}
	var try func(nodes []node)
	try = func(nodes []node) {
		for root := -1; root < len(nodes)+4; root++ {
			d := diag{Nodes: nodes, Root: root}
			e := diagram.Check(d)
			if want := naiveCheck(d); e != want {
				t.Errorf("Check(%v) = %d, not %d", d, e, want)
			}
			if e == api.OK {
				var f []string
				for at := range 4 {
					f = append(f, strconv.FormatBool(value(d, d.Root, row(at, 2))))
				}
				if key := strings.Join(f, " "); seen[key] {
					t.Errorf("%v is another diagram of %s", d, key)
				} else {
					seen[key] = true
				}
			}
		}
		if len(nodes) == 3 {
			return
		}
		for variable := range 2 {
			for no := range len(nodes) + 2 {
				for yes := range len(nodes) + 2 {
					try(append(slices.Clone(nodes), node{Variable: variable, No: no, Yes: yes}))
				}
			}
		}
	}
	try(nil)
	if len(seen) != 16 {
		t.Errorf("%d functions of two variables", len(seen))
	}
}

// wrong has diagrams that are not right, each one with its error.
func wrong(t *testing.T) []struct {
	d    diag
	want api.Errno
} {
	return []struct {
		d    diag
		want api.Errno
	}{
		{diag{Nodes: make([]node, diagram.MaxNodes+1)}, api.ErrLimit},
		{full(t, 1), api.ErrLimit},
		{diag{Root: 2}, api.ErrRange},
		{diag{Root: -1}, api.ErrRange},
		{diag{Root: math.MaxInt}, api.ErrRange},
		{diag{[]node{{-1, 0, 1}}, 2}, api.ErrRange},
		{diag{[]node{{formula.MaxVariables, 0, 1}}, 2}, api.ErrRange},
		{diag{[]node{{math.MinInt, 0, 0}}, 2}, api.ErrRange},
		{diag{[]node{{0, -1, 1}}, 2}, api.ErrRange},
		{diag{[]node{{0, 0, -1}}, 2}, api.ErrRange},
		{diag{[]node{{0, 2, 1}}, 2}, api.ErrRange},
		{diag{[]node{{0, 0, 2}}, 2}, api.ErrRange},
		{diag{[]node{{0, 5, 5}}, 2}, api.ErrRange},
		{diag{[]node{{0, 0, math.MaxInt}}, 2}, api.ErrRange},
		{diag{[]node{{0, math.MinInt, 0}}, 2}, api.ErrRange},
		{diag{[]node{{0, 0, 0}}, 2}, api.ErrForm},
		{diag{[]node{{1, 0, 1}, {2, 2, 2}}, 3}, api.ErrForm},
		{diag{[]node{{0, 0, 1}, {1, 0, 2}}, 3}, api.ErrOrder},
		{diag{[]node{{1, 0, 1}, {1, 2, 0}}, 3}, api.ErrOrder},
		{diag{[]node{{1, 0, 1}, {1, 0, 1}}, 3}, api.ErrDuplicate},
		{diag{[]node{{1, 0, 1}, {0, 0, 2}, {0, 0, 2}, {-1, 0, 0}}, 9}, api.ErrDuplicate},
		{diag{[]node{{1, 0, 1}, {1, 0, 1}, {1, 1, 1}}, 3}, api.ErrDuplicate},
		{diag{[]node{{1, 0, 1}, {0, 0, 2}}, 4}, api.ErrRange},
		{diag{[]node{{1, 0, 1}, {0, 0, 2}}, -1}, api.ErrRange},
		{diag{[]node{{1, 0, 1}, {0, 0, 2}}, 2}, api.ErrForm},
		{diag{[]node{{1, 0, 1}, {0, 0, 2}}, 1}, api.ErrForm},
		{diag{[]node{{1, 0, 1}, {1, 1, 0}, {0, 0, 2}}, 4}, api.ErrForm}, // one is not reached
		{diag{[]node{{1, 0, 1}, {1, 1, 0}, {0, 3, 2}}, 4}, api.ErrForm}, // No is left first
		{diag{[]node{{2, 0, 1}, {1, 1, 0}, {0, 2, 3}}, 4}, api.OK},
		{diag{[]node{{2, 0, 1}, {1, 0, 1}, {0, 3, 2}}, 4}, api.ErrForm},
	}
}

// P1, P8.1 to P8.6: all functions return the error of Check first, for the diagrams in order.
func TestErrors(t *testing.T) {
	right := diag{Root: 1}
	limit := diag{Nodes: make([]node, diagram.MaxNodes+1)}
	for i, c := range wrong(t) {
		if e := diagram.Check(c.d); e != c.want {
			t.Errorf("%d: Check = %d, not %d", i, e, c.want)
		}
		if c.want == api.OK {
			continue
		}
		var results []diag
		var errors []api.Errno
		add := func(d diag, e api.Errno) { results, errors = append(results, d), append(errors, e) }
		add(diagram.Not(c.d))
		add(diagram.And(c.d, limit))
		add(diagram.And(right, c.d))
		add(diagram.Or(c.d, limit))
		add(diagram.Or(right, c.d))
		add(diagram.Choose(c.d, limit, limit))
		add(diagram.Choose(right, c.d, limit))
		add(diagram.Choose(right, right, c.d))
		add(diagram.Restrict(c.d, -1, true))
		add(diagram.Exists(c.d, -1))
		first, e1 := diagram.Implies(c.d, limit)
		second, e2 := diagram.Implies(right, c.d)
		is, e3 := diagram.Value(c.d, nil)
		support, e4 := diagram.Support(c.d)
		count, e5 := diagram.Count(c.d, -1)
		values, found, e6 := diagram.Witness(c.d, -1)
		for k, e := range append(errors, e1, e2, e3, e4, e5, e6) {
			if e != c.want {
				t.Errorf("%d: the function %d: %d, not %d", i, k, e, c.want)
			}
		}
		if slices.ContainsFunc(results, func(d diag) bool { return !zero(d) }) || first || second || is || found || len(support)+len(count)+len(values) > 0 {
			t.Errorf("%d: results with an error", i)
		}
	}
	a, b := diag{[]node{{0, 0, 0}}, 2}, diag{Root: 7}
	if _, e := diagram.And(a, b); e != api.ErrForm {
		t.Errorf("And of two wrong ones: %d", e)
	}
	if _, e := diagram.Choose(right, b, a); e != api.ErrRange {
		t.Errorf("Choose of two wrong ones: %d", e)
	}
}

// P8.1
func TestEqual(t *testing.T) {
	a := diag{[]node{{1, 0, 1}, {0, 0, 2}}, 3}
	l := []diag{a, {a.Nodes, 2}, {a.Nodes[:1], 3}, {nil, 3}, {nil, 0}, {[]node{{1, 0, 1}, {0, 2, 0}}, 3}, {[]node{{1, 0, 1}, {2, 0, 2}}, 3}, {[]node{{1, 0, 1}, {0, 1, 2}}, 3}}
	for i, d := range l {
		for k, other := range l {
			if diagram.Equal(d, diag{slices.Clone(other.Nodes), other.Root}) != (i == k) {
				t.Errorf("Equal(%v, %v)", d, other)
			}
		}
	}
	if !diagram.Equal(diag{}, diag{Nodes: []node{}}) {
		t.Error("nil and empty lists are not equal")
	}
}

// P8.2
func TestLiteral(t *testing.T) {
	for _, variable := range []int{0, 1, 77, formula.MaxVariables - 1} {
		yes, e := diagram.Literal(variable, true)
		no, f := diagram.Literal(variable, false)
		if e != api.OK || f != api.OK || !same(yes, diag{[]node{{variable, 0, 1}}, 2}) || !same(no, diag{[]node{{variable, 1, 0}}, 2}) {
			t.Errorf("Literal(%d) = %v, %d, and %v, %d", variable, yes, e, no, f)
		}
	}
	for _, variable := range []int{-1, formula.MaxVariables, math.MinInt, math.MaxInt} {
		if d, e := diagram.Literal(variable, true); e != api.ErrRange || !zero(d) {
			t.Errorf("Literal(%d) = %v, %d", variable, d, e)
		}
	}
	if !same(diagram.Constant(true), diag{Root: 1}) || !same(diagram.Constant(false), diag{}) {
		t.Error("Constant")
	}
}

// random returns a formula of the variables 0 to variables - 1, and its values.
func random(r *rand.Rand, levels, variables int) (formula.Formula, truth) {
	input := func() (formula.Formula, truth) { return random(r, levels-1, variables) }
	switch kind := r.Intn(9); {
	case levels == 1 && kind < 8:
		v := r.Intn(variables)
		return formula.Formula{Kind: api.Var, Arg: v}, with(variables, func(at int) bool { return row(at, variables)[v] })
	case levels == 1 || kind == 8:
		value := r.Intn(2) == 0
		return formula.Formula{Kind: map[bool]int{false: api.False, true: api.True}[value]}, with(variables, func(int) bool { return value })
	case kind < 3:
		in, f := input()
		return formula.Formula{Kind: api.Not, In: []formula.Formula{in}}, with(variables, func(at int) bool { return !f[at] })
	}
	and := r.Intn(2) == 0
	g, f := formula.Formula{Kind: map[bool]int{false: api.Or, true: api.And}[and]}, with(variables, func(int) bool { return and })
	for range []int{0, 1, 2, 2, 2, 3, 3, 4}[r.Intn(8)] {
		in, next := input()
		g.In = append(g.In, in)
		f = with(variables, func(at int) bool { return and && f[at] && next[at] || !and && (f[at] || next[at]) })
	}
	return g, f
}

// P8.2 and P8.7
func TestOf(t *testing.T) {
	r := rand.New(rand.NewSource(8))
	names := []int{0, 1, 2, 3, 4, 5}
	sizes := map[int]bool{}
	for i := range 3000 {
		variables := 1 + i%6
		f, values := random(r, 2+i%6, variables)
		d, e := diagram.Of(f)
		if want := naive(values, names[:variables]); e != api.OK || !same(d, want) || diagram.Check(d) != api.OK {
			t.Errorf("Of(%v) = %v, %d, not %v", f, d, e, want)
		}
		sizes[len(d.Nodes)] = true
	}
	if len(sizes) < 10 {
		t.Errorf("only %d sizes of diagrams", len(sizes))
	}
	// The variables of formulas stay what they are.
	if d := of(t, "&(x4095 !x7)"); !same(d, diag{[]node{{4095, 0, 1}, {7, 2, 0}}, 3}) {
		t.Errorf("Of = %v", d)
	}
	for _, c := range []struct {
		f    formula.Formula
		want api.Errno
	}{{formula.Formula{}, api.ErrKind}, {formula.Formula{Kind: api.Var, Arg: -1}, api.ErrRange}, {formula.Formula{Kind: api.Not}, api.ErrForm}, {formula.Formula{Kind: api.And, In: make([]formula.Formula, 10_000)}, api.ErrLimit}} {
		if d, e := diagram.Of(c.f); e != c.want || !zero(d) {
			t.Errorf("Of = %d, not %d", e, c.want)
		}
	}
}

// P8.2: formulas with many nodes, and with many variables.
func TestOfGreat(t *testing.T) {
	up := list("&", 4096, x)
	down := list("|", 4096, func(i int) string { return x(4095 - i) })
	both := list("&", 3000, func(i int) string { return "!|(" + x(i*7%4096) + ")" })
	for _, c := range []struct {
		text  string
		nodes int
	}{{up, 4096}, {down, 4096}, {"!" + up, 4096}, {both, 3000}, {"&(" + up + " !" + up + ")", 0}, {pairs(14), 32766}, {"!" + pairs(14), 32766}} {
		if d := of(t, c.text); len(d.Nodes) != c.nodes || diagram.Check(d) != api.OK {
			t.Errorf("the diagram of %.20s.. has %d nodes, not %d", c.text, len(d.Nodes), c.nodes)
		}
	}
	for _, n := range []int{15, 16, 30, 1000} {
		if d, e := diagram.Of(parse(t, pairs(n))); e != api.ErrLimit || !zero(d) {
			t.Errorf("the diagram of %d pairs: %d", n, e)
		}
	}
	// On the way there can be more nodes than in a diagram.
	none := list("&", 17, func(i int) string { return "!" + x(i) })
	if d := of(t, "&("+pairs(17)+" "+none+")"); !zero(d) {
		t.Errorf("no pair is true, but %v", d)
	}
	if d := of(t, "|("+pairs(17)+" &(x40 !x40) !"+pairs(17)+")"); !same(d, diag{Root: 1}) {
		t.Errorf("a pair is true, or not, but %v", d)
	}
}

// The examples of the chapter.
func TestExamples(t *testing.T) {
	d := of(t, "&(x0 x1)")
	count, _ := diagram.Count(d, 2)
	values, found, _ := diagram.Witness(d, 2)
	if !same(d, diag{[]node{{1, 0, 1}, {0, 0, 2}}, 3}) || count != "1" || !found || !slices.Equal(values, []bool{true, true}) {
		t.Errorf("example 1: %v, %s, %v", d, count, values)
	}
	if d := of(t, "|(x0 !x0)"); !same(d, diag{Root: 1}) {
		t.Errorf("example 2: %v", d)
	}
	if d := of(t, "|(&(x0 x1) &(!x0 x2))"); !same(d, diag{[]node{{2, 0, 1}, {1, 0, 1}, {0, 2, 3}}, 4}) {
		t.Errorf("example 2: %v", d)
	}
}
