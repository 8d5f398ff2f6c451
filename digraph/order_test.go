package digraph_test

import (
	"slices"
	"testing"

	"bombarde/api"
	"bombarde/digraph"
)

// P6.4 and P6.7
func TestComponents(t *testing.T) {
	for _, g := range randoms() {
		reach := naiveReach(g)
		together := func(a, b int) bool { return a == b || reach[a][b] && reach[b][a] }
		var want [][]int
		at := make([]int, g.Nodes)
		for node := range g.Nodes {
			at[node] = slices.IndexFunc(want, func(l []int) bool { return together(l[0], node) })
			if at[node] < 0 {
				at[node] = len(want)
				want = append(want, nil)
			}
			want[at[node]] = append(want[at[node]], node)
		}
		components, e := digraph.Components(g)
		if e != api.OK || !slices.EqualFunc(components, want, slices.Equal) {
			t.Errorf("Components(%v) = %v, %d, not %v", g, components, e, want)
		}
		condensed := graph{Nodes: len(want)}
		for from := range want {
			for to := range want {
				if from != to && slices.ContainsFunc(g.Edges, func(e edge) bool { return at[e.From] == from && at[e.To] == to }) {
					condensed.Edges = append(condensed.Edges, edge{From: from, To: to})
				}
			}
		}
		got, e := digraph.Condense(g)
		if e != api.OK || !equal(got, condensed) || !acyclic(got) {
			t.Errorf("Condense(%v) = %v, %d, not %v", g, got, e, condensed)
		}
		if acyclic(g) && len(components) != g.Nodes {
			t.Errorf("%v has no cycle, and the components %v", g, components)
		}
	}
}

// permutations returns the lists of some numbers in every order, in lexicographic order if they are increasing.
func permutations(l []int) [][]int {
	if len(l) == 0 {
		return [][]int{nil}
	}
	var all [][]int
	for i, first := range l {
		for _, rest := range permutations(slices.Concat(l[:i], l[i+1:])) {
			all = append(all, append([]int{first}, rest...))
		}
	}
	return all
}

// naiveOrder is the definition of the least topological order.
func naiveOrder(g graph) (order []int, found bool) {
	var nodes []int
	for node := range g.Nodes {
		nodes = append(nodes, node)
	}
	for _, order := range permutations(nodes) {
		if !slices.ContainsFunc(g.Edges, func(e edge) bool { return slices.Index(order, e.From) >= slices.Index(order, e.To) }) {
			return order, true
		}
	}
	return nil, false
}

// P6.5 and P6.7
func TestOrder(t *testing.T) {
	for _, g := range randoms() {
		want, is := naiveOrder(g)
		order, e := digraph.Order(g)
		if is != (e == api.OK) || !is && e != api.ErrCycle || !slices.Equal(order, want) {
			t.Errorf("Order(%v) = %v, %d, not %v", g, order, e, want)
		}
		if is != acyclic(g) {
			t.Errorf("%v: %t", g, is)
		}
	}
	for _, g := range []graph{of(1, 0, 0), of(3, 0, 1, 2, 2), circle(200)} {
		order, e := digraph.Order(g)
		longest, f := digraph.Longest(g)
		needed, h := digraph.Needed(g)
		if e != api.ErrCycle || f != api.ErrCycle || h != api.ErrCycle || len(order)+len(longest)+len(needed) > 0 {
			t.Errorf("%v: %d, %d, %d", g, e, f, h)
		}
	}
	// Of the nodes that can come next the least one does, also if it could not before.
	if order, e := digraph.Order(of(5, 4, 0, 4, 3, 0, 2)); e != api.OK || !slices.Equal(order, []int{1, 4, 0, 2, 3}) {
		t.Errorf("Order = %v, %d", order, e)
	}
}

// P6.5 and P6.7
func TestLongest(t *testing.T) {
	for _, g := range randoms() {
		longest, e := digraph.Longest(g)
		if !acyclic(g) {
			if e != api.ErrCycle || longest != nil {
				t.Errorf("Longest(%v) = %v, %d", g, longest, e)
			}
			continue
		}
		want := make([]int, g.Nodes)
		for length := 1; length < g.Nodes; length++ {
			for _, path := range paths(g, length) {
				want[g.Edges[path[length-1]].To] = length
			}
		}
		if e != api.OK || !slices.Equal(longest, want) {
			t.Errorf("Longest(%v) = %v, %d, not %v", g, longest, e, want)
		}
		for _, edge := range g.Edges {
			if longest[edge.From] >= longest[edge.To] {
				t.Errorf("Longest(%v) = %v does not increase along %v", g, longest, edge)
			}
		}
	}
}

// P6.6 and P6.7
func TestReverse(t *testing.T) {
	for _, g := range append(randoms(), circle(200)) {
		reverse, e := digraph.Reverse(g)
		again, f := digraph.Reverse(reverse)
		if e != api.OK || f != api.OK || !equal(again, g) || reverse.Nodes != g.Nodes || len(reverse.Edges) != len(g.Edges) {
			t.Fatalf("Reverse(%v) = %v, %d", g, reverse, e)
		}
		for i, edge := range g.Edges {
			if reverse.Edges[i].From != edge.To || reverse.Edges[i].To != edge.From {
				t.Errorf("Reverse(%v) = %v", g, reverse)
			}
		}
	}
}

// P6.6
func TestClosure(t *testing.T) {
	for _, g := range randoms() {
		want := graph{Nodes: g.Nodes}
		for from, reached := range naiveReach(g) {
			for to, is := range reached {
				if is {
					want.Edges = append(want.Edges, edge{From: from, To: to})
				}
			}
		}
		if closure, e := digraph.Closure(g); e != api.OK || !equal(closure, want) {
			t.Errorf("Closure(%v) = %v, %d, not %v", g, closure, e, want)
		}
	}
	// A circle of n nodes has n * n pairs, a chain n * (n - 1) / 2.
	exact := of(66)
	for i := range 1000 {
		exact.Edges = append(exact.Edges, edge{From: i / 40, To: 25 + i%40})
	}
	for i, c := range []struct {
		g    graph
		want int
	}{{circle(31), 961}, {circle(32), -1}, {circle(200), -1}, {chain(45), 990}, {chain(46), -1}, {chain(200), -1}, {exact, 1000}} {
		closure, e := digraph.Closure(c.g)
		switch {
		case c.want < 0 && (e != api.ErrLimit || !zero(closure)):
			t.Errorf("%d: the closure of %d nodes has %d edges, %d", i, c.g.Nodes, len(closure.Edges), e)
		case c.want >= 0 && (e != api.OK || len(closure.Edges) != c.want):
			t.Errorf("%d: the closure of %d nodes has %d edges, %d", i, c.g.Nodes, len(closure.Edges), e)
		}
	}
	exact.Edges[999] = edge{From: 64, To: 65} // so that the nodes 0 to 23 lead to 65, too
	if closure, e := digraph.Closure(exact); e != api.ErrLimit || !zero(closure) {
		t.Errorf("the closure has %d edges, %d", len(closure.Edges), e)
	}
}

// P6.6 and P6.7
func TestNeeded(t *testing.T) {
	left := 0
	for _, g := range randoms() {
		needed, e := digraph.Needed(g)
		if !acyclic(g) {
			if e != api.ErrCycle || needed != nil {
				t.Errorf("Needed(%v) = %v, %d", g, needed, e)
			}
			continue
		}
		var want []int
		only := graph{Nodes: g.Nodes}
		for i, edge := range g.Edges {
			implied := slices.Contains(g.Edges[:i], edge)
			for length := 2; length < g.Nodes; length++ {
				implied = implied || slices.ContainsFunc(paths(g, length), func(path []int) bool { return leads(g, path, edge.From, edge.To) })
			}
			if !implied {
				want = append(want, i)
				only.Edges = append(only.Edges, edge)
			}
		}
		if e != api.OK || !slices.Equal(needed, want) {
			t.Errorf("Needed(%v) = %v, %d, not %v", g, needed, e, want)
		}
		if !slices.EqualFunc(naiveReach(g), naiveReach(only), slices.Equal) {
			t.Errorf("the edges %v of %v do not reach all", needed, g)
		}
		left += len(g.Edges) - len(needed)
	}
	if left < 100 {
		t.Errorf("%d edges were left out", left)
	}
}
