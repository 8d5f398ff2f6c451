package digraph

import (
	"cmp"
	"maps"
	"slices"

	"bombarde/api"
)

// Components returns the lists of the nodes that reach each other.
func Components(g Graph) ([][]int, api.Errno) {
	if e := Check(g); e != api.OK {
		return nil, e
	}
	l, _ := components(g)
	return l, api.OK
}

// components returns the components, and the one of each node.
func components(g Graph) (l [][]int, of []int) {
	const none = -1
	of = slices.Repeat([]int{none}, g.Nodes)
	all := outletsOf(g).allDistances()
	for first := range of {
		if of[first] != none {
			continue
		}
		var nodes []int
		for node := range of {
			if all[first][node] != unreached && all[node][first] != unreached {
				of[node] = len(l)
				nodes = append(nodes, node)
			}
		}
		l = append(l, nodes)
	}
	return l, of
}

// Condense returns the graph of the components.
func Condense(g Graph) (Graph, api.Errno) {
	if e := Check(g); e != api.OK {
		return Graph{}, e
	}
	l, of := components(g)
	edges := map[Edge]bool{}
	for _, edge := range g.Edges {
		if of[edge.From] != of[edge.To] {
			edges[Edge{From: of[edge.From], To: of[edge.To]}] = true
		}
	}
	return Graph{Nodes: len(l), Edges: slices.SortedFunc(maps.Keys(edges), compareEdges)}, api.OK
}

// compareEdges orders edges by From, then by To.
func compareEdges(a, b Edge) int {
	return cmp.Or(cmp.Compare(a.From, b.From), cmp.Compare(a.To, b.To))
}
