package digraph

import (
	"slices"

	"bombarde/api"
)

// Order returns the least topological order.
func Order(g Graph) ([]int, api.Errno) {
	if e := Check(g); e != api.OK {
		return nil, e
	}
	return outletsOf(g).order()
}

// order returns the least topological order: at each place the least node to which no edge leads from the nodes that are left.
func (o outlets) order() ([]int, api.Errno) {
	const placed = -1
	entering := make([]int, len(o.of))
	for _, edge := range o.edges {
		entering[edge.To]++
	}
	var order []int
	for range entering {
		node := slices.Index(entering, 0)
		if node < 0 {
			return nil, api.ErrCycle
		}
		entering[node] = placed
		order = append(order, node)
		for _, to := range o.leaving(node) {
			entering[to]--
		}
	}
	return order, api.OK
}

// Longest returns the greatest number of edges of a path to each node.
func Longest(g Graph) ([]int, api.Errno) {
	if e := Check(g); e != api.OK {
		return nil, e
	}
	o := outletsOf(g)
	order, e := o.order()
	if e != api.OK {
		return nil, e
	}
	longest := make([]int, g.Nodes)
	for _, node := range order {
		for _, to := range o.leaving(node) {
			longest[to] = max(longest[to], longest[node]+1)
		}
	}
	return longest, api.OK
}

// Closure returns the graph with an edge wherever a path with an edge leads.
func Closure(g Graph) (Graph, api.Errno) {
	if e := Check(g); e != api.OK {
		return Graph{}, e
	}
	o := outletsOf(g)
	all := o.allDistances()
	closure := Graph{Nodes: g.Nodes}
	for from := range g.Nodes {
		for to := range g.Nodes {
			if _, leads := o.first(from, func(next int) bool { return all[next][to] != unreached }); leads {
				closure.Edges = append(closure.Edges, Edge{From: from, To: to})
			}
		}
	}
	if len(closure.Edges) > MaxEdges {
		return Graph{}, api.ErrLimit
	}
	return closure, api.OK
}

// Needed returns the edges that the others do not imply.
func Needed(g Graph) ([]int, api.Errno) {
	if e := Check(g); e != api.OK {
		return nil, e
	}
	o := outletsOf(g)
	if _, e := o.order(); e != api.OK {
		return nil, e
	}
	all := o.allDistances()
	var needed []int
	for i, edge := range g.Edges {
		// Without a cycle, a path that begins at another node than To, and leads there, has an edge.
		_, around := o.first(edge.From, func(next int) bool { return next != edge.To && all[next][edge.To] != unreached })
		if !around && !slices.Contains(g.Edges[:i], edge) {
			needed = append(needed, i)
		}
	}
	return needed, api.OK
}
