package digraph_test

import (
	"math"
	"math/rand"
	"slices"
	"testing"

	"bombarde/api"
	"bombarde/digraph"
)

type edge = digraph.Edge
type graph = digraph.Graph

// of returns a graph with edges from the first to the second number of each pair.
func of(nodes int, ends ...int) graph {
	g := graph{Nodes: nodes}
	for i := 0; i < len(ends); i += 2 {
		g.Edges = append(g.Edges, edge{From: ends[i], To: ends[i+1]})
	}
	return g
}

// equal reports whether two graphs are the same.
func equal(a, b graph) bool { return a.Nodes == b.Nodes && slices.Equal(a.Edges, b.Edges) }

// zero reports whether a graph is the zero value.
func zero(g graph) bool { return g.Nodes == 0 && len(g.Edges) == 0 }

// circle returns a graph with an edge from each node to the next one, and from the last one to the first one.
func circle(nodes int) graph {
	g := graph{Nodes: nodes}
	for node := range nodes {
		g.Edges = append(g.Edges, edge{From: node, To: (node + 1) % nodes})
	}
	return g
}

// chain returns a graph with an edge from each node to the next one.
func chain(nodes int) graph {
	g := circle(nodes)
	return graph{Nodes: nodes, Edges: g.Edges[:nodes-1]}
}

// randoms returns small graphs of all kinds: with several edges of the same ends, with edges from a node to itself, and, every second one, without a cycle.
func randoms() []graph {
	r := rand.New(rand.NewSource(6))
	var l []graph
	for i := range 1200 {
		g := graph{Nodes: 1 + i%6}
		names := r.Perm(g.Nodes)
		for range r.Intn(9) {
			from, to := r.Intn(g.Nodes), r.Intn(g.Nodes)
			if i%2 == 0 {
				if from == to {
					continue
				}
				from, to = names[min(from, to)], names[max(from, to)]
			}
			g.Edges = append(g.Edges, edge{From: from, To: to})
		}
		l = append(l, g)
	}
	return append(l, graph{}, of(1), of(1, 0, 0), of(2, 0, 1, 0, 1), of(2, 0, 1, 1, 0, 1, 0, 0, 1))
}

// paths returns all lists of indices of a number of edges, each of which begins where the one before ends, in lexicographic order.
func paths(g graph, length int) [][]int {
	if length == 0 {
		return [][]int{nil}
	}
	var l [][]int
	for _, path := range paths(g, length-1) {
		for i, edge := range g.Edges {
			if len(path) == 0 || g.Edges[path[len(path)-1]].To == edge.From {
				l = append(l, append(slices.Clone(path), i))
			}
		}
	}
	return l
}

// leads reports whether a path, which is not empty, leads from a node to another one.
func leads(g graph, path []int, from, to int) bool {
	return g.Edges[path[0]].From == from && g.Edges[path[len(path)-1]].To == to
}

// naivePath is the definition of the shortest path.
func naivePath(g graph, from, to int) (path []int, found bool) {
	if from == to {
		return nil, true
	}
	for length := 1; length < g.Nodes; length++ {
		for _, path := range paths(g, length) {
			if leads(g, path, from, to) {
				return path, true
			}
		}
	}
	return nil, false
}

// naiveCycle is the definition of the smallest cycle.
func naiveCycle(g graph) (cycle []int, found bool) {
	for length := 1; length <= g.Nodes; length++ {
		for _, path := range paths(g, length) {
			entered := map[int]bool{}
			for _, i := range path {
				entered[g.Edges[i].To] = true
			}
			if leads(g, path, g.Edges[path[0]].From, g.Edges[path[0]].From) && len(entered) == length && slices.Min(path) == path[0] {
				return path, true
			}
		}
	}
	return nil, false
}

// naiveReach tells for each node to which ones a path with at least one edge leads.
func naiveReach(g graph) [][]bool {
	reach := make([][]bool, g.Nodes)
	for node := range reach {
		reach[node] = make([]bool, g.Nodes)
	}
	for _, edge := range g.Edges {
		reach[edge.From][edge.To] = true
	}
	for over := range g.Nodes {
		for from := range g.Nodes {
			for to := range g.Nodes {
				reach[from][to] = reach[from][to] || reach[from][over] && reach[over][to]
			}
		}
	}
	return reach
}

// acyclic reports whether a graph has no cycle.
func acyclic(g graph) bool {
	for node, reached := range naiveReach(g) {
		if reached[node] {
			return false
		}
	}
	return true
}

// wrong has graphs that are not right, each one with its error.
func wrong() map[api.Errno][]graph {
	many := make([]edge, digraph.MaxEdges+1)
	return map[api.Errno][]graph{
		api.ErrRange:   {of(-1), of(math.MinInt), of(-1, 5, 5), {Nodes: -1, Edges: many}},
		api.ErrLimit:   {of(digraph.MaxNodes + 1), of(math.MaxInt), of(digraph.MaxNodes+1, -1, 0), {Nodes: 1, Edges: many}, {Nodes: 0, Edges: many}},
		api.ErrUnknown: {of(0, 0, 0), of(2, 0, 2), of(2, 2, 0), of(2, 0, 1, -1, 0), of(2, 0, 1, 1, -1), of(2, 0, math.MaxInt), of(2, math.MinInt, 0)},
	}
}

// P6.1
func TestCheck(t *testing.T) {
	for want, l := range wrong() {
		for _, g := range l {
			if e := digraph.Check(g); e != want {
				t.Errorf("Check(%d nodes, %d edges) = %d, not %d", g.Nodes, len(g.Edges), e, want)
			}
		}
	}
	all := graph{Nodes: digraph.MaxNodes, Edges: make([]edge, digraph.MaxEdges)}
	all.Edges[999] = edge{From: digraph.MaxNodes - 1, To: digraph.MaxNodes - 1}
	for _, g := range append(randoms(), all, circle(digraph.MaxNodes), graph{Nodes: 2, Edges: []edge{}}) {
		if e := digraph.Check(g); e != api.OK {
			t.Errorf("Check(%v) = %d", g, e)
		}
	}
}

// P1, P6.1 to P6.6: all functions return the error of Check first, and zero values.
func TestErrors(t *testing.T) {
	for want, l := range wrong() {
		for _, g := range l {
			reached, e1 := digraph.Reach(g, -1)
			distance, e2 := digraph.Distance(g, -1)
			path, is, e3 := digraph.Path(g, -1, -1)
			cycle, found, e4 := digraph.Cycle(g)
			components, e5 := digraph.Components(g)
			condensed, e6 := digraph.Condense(g)
			order, e7 := digraph.Order(g)
			longest, e8 := digraph.Longest(g)
			reverse, e9 := digraph.Reverse(g)
			closure, e10 := digraph.Closure(g)
			needed, e11 := digraph.Needed(g)
			for i, e := range []api.Errno{e1, e2, e3, e4, e5, e6, e7, e8, e9, e10, e11} {
				if e != want {
					t.Errorf("the function %d of %d nodes: %d, not %d", i, g.Nodes, e, want)
				}
			}
			if len(reached)+len(distance)+len(path)+len(cycle)+len(components)+len(order)+len(longest)+len(needed) > 0 || is || found || !zero(condensed) || !zero(reverse) || !zero(closure) {
				t.Errorf("results with the error %d", want)
			}
		}
	}
	g := circle(3)
	for _, node := range []int{-1, 3, math.MinInt, math.MaxInt} {
		reached, e1 := digraph.Reach(g, node)
		distance, e2 := digraph.Distance(g, node)
		path, is, e3 := digraph.Path(g, node, 0)
		other, found, e4 := digraph.Path(g, 0, node)
		same, there, e5 := digraph.Path(g, node, node)
		if slices.ContainsFunc([]api.Errno{e1, e2, e3, e4, e5}, func(e api.Errno) bool { return e != api.ErrUnknown }) {
			t.Errorf("the node %d: %d, %d, %d, %d, %d", node, e1, e2, e3, e4, e5)
		}
		if len(reached)+len(distance)+len(path)+len(other)+len(same) > 0 || is || found || there {
			t.Errorf("the node %d has results", node)
		}
	}
	if _, e := digraph.Reach(graph{}, 0); e != api.ErrUnknown {
		t.Errorf("the node 0 of none: %d", e)
	}
}

// P6.2, P6.3 and P6.7
func TestPaths(t *testing.T) {
	for _, g := range randoms() {
		for from := range g.Nodes {
			distance, e := digraph.Distance(g, from)
			reached, h := digraph.Reach(g, from)
			if e != api.OK || h != api.OK || len(distance) != g.Nodes {
				t.Fatalf("%v from %d: %v, %d, %d", g, from, distance, e, h)
			}
			var nodes []int
			for to := range g.Nodes {
				want, is := naivePath(g, from, to)
				path, found, e := digraph.Path(g, from, to)
				if e != api.OK || found != is || !slices.Equal(path, want) {
					t.Errorf("Path(%v, %d, %d) = %v, %t, %d, not %v", g, from, to, path, found, e, want)
				}
				length := -1
				if is {
					nodes, length = append(nodes, to), len(want)
				}
				if distance[to] != length {
					t.Errorf("Distance(%v, %d) = %v, not %d for %d", g, from, distance, length, to)
				}
			}
			if !slices.Equal(reached, nodes) {
				t.Errorf("Reach(%v, %d) = %v, not %v", g, from, reached, nodes)
			}
		}
	}
}

// P6.3
func TestCycle(t *testing.T) {
	cyclic := 0
	for _, g := range randoms() {
		want, is := naiveCycle(g)
		cycle, found, e := digraph.Cycle(g)
		if e != api.OK || found != is || !slices.Equal(cycle, want) {
			t.Errorf("Cycle(%v) = %v, %t, %d, not %v", g, cycle, found, e, want)
		}
		if is == acyclic(g) {
			t.Errorf("%v: %t", g, is)
		}
		if is {
			cyclic++
		}
	}
	if cyclic < 100 {
		t.Errorf("%d graphs with cycles", cyclic)
	}
}

// The examples of the chapter.
func TestExamples(t *testing.T) {
	g := of(4, 0, 1, 1, 2, 0, 2, 2, 3)
	path, found, e := digraph.Path(g, 0, 3)
	distance, _ := digraph.Distance(g, 0)
	needed, _ := digraph.Needed(g)
	if e != api.OK || !found || !slices.Equal(path, []int{2, 3}) || !slices.Equal(distance, []int{0, 1, 1, 2}) || !slices.Equal(needed, []int{0, 1, 3}) {
		t.Errorf("example 1: %v, %v, %v", path, distance, needed)
	}
	g = of(4, 0, 1, 1, 2, 0, 2, 2, 3, 3, 0)
	cycle, found, e := digraph.Cycle(g)
	components, _ := digraph.Components(g)
	if e != api.OK || !found || !slices.Equal(cycle, []int{2, 3, 4}) || len(components) != 1 || !slices.Equal(components[0], []int{0, 1, 2, 3}) {
		t.Errorf("example 2: %v, %v", cycle, components)
	}
	if order, e := digraph.Order(of(4, 2, 1, 0, 1)); e != api.OK || !slices.Equal(order, []int{0, 2, 1, 3}) {
		t.Errorf("example 3: %v, %d", order, e)
	}
}

// P1: graphs with as many nodes and edges as there can be.
func TestGreatest(t *testing.T) {
	g := graph{Nodes: digraph.MaxNodes}
	for i := range digraph.MaxEdges {
		g.Edges = append(g.Edges, edge{From: i / 5, To: (i/5 + 1) % digraph.MaxNodes})
	}
	path, found, e := digraph.Path(g, 0, 199)
	if e != api.OK || !found || len(path) != 199 || path[1] != 5 || path[198] != 990 {
		t.Errorf("Path = %v, %t, %d", path, found, e)
	}
	cycle, found, e := digraph.Cycle(g)
	if e != api.OK || !found || !slices.Equal(cycle, append(path, 995)) {
		t.Errorf("Cycle = %v, %t, %d", cycle, found, e)
	}
	components, e := digraph.Components(g)
	if e != api.OK || len(components) != 1 || len(components[0]) != digraph.MaxNodes {
		t.Errorf("Components = %v, %d", components, e)
	}
	g.Edges = g.Edges[:995]
	longest, e := digraph.Longest(g)
	order, f := digraph.Order(g)
	needed, h := digraph.Needed(g)
	if e != api.OK || f != api.OK || h != api.OK || longest[199] != 199 || order[199] != 199 || len(needed) != 199 || needed[198] != 990 {
		t.Errorf("Longest = %v, Order = %v, Needed = %v", longest, order, needed)
	}
}

// P1: arguments stay as they are, and results are memory of their own.
func TestMemory(t *testing.T) {
	for _, g := range []graph{of(4, 0, 1, 1, 2, 0, 2, 2, 3), of(5, 0, 1, 1, 0, 2, 3, 3, 2, 1, 2)} {
		kept := graph{Nodes: g.Nodes, Edges: slices.Clone(g.Edges)}
		var numbers [][]int
		reached, _ := digraph.Reach(g, 0)
		distance, _ := digraph.Distance(g, 0)
		path, _, _ := digraph.Path(g, 0, 3)
		cycle, _, _ := digraph.Cycle(g)
		components, _ := digraph.Components(g)
		order, _ := digraph.Order(g)
		longest, _ := digraph.Longest(g)
		needed, _ := digraph.Needed(g)
		condensed, _ := digraph.Condense(g)
		reverse, _ := digraph.Reverse(g)
		closure, _ := digraph.Closure(g)
		numbers = append(components, reached, distance, path, cycle, order, longest, needed)
		for i, l := range numbers {
			for k := range l[:cap(l)] {
				l[:cap(l)][k] = -i
			}
		}
		for i, l := range numbers {
			if slices.ContainsFunc(l, func(n int) bool { return n != -i }) {
				t.Errorf("the lists of %v share memory", g)
			}
		}
		for _, result := range []graph{condensed, reverse, closure} {
			clear(result.Edges[:cap(result.Edges)])
		}
		if !equal(g, kept) {
			t.Errorf("%v became %v", kept, g)
		}
	}
}
