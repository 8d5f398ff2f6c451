package digraph

import (
	"iter"

	"bombarde/api"
)

// outlets has the edges of a graph, and for each node the indices of those that leave it.
type outlets struct {
	edges []Edge
	of    [][]int
}

// outletsOf returns the edges of a graph by the nodes that they leave.
func outletsOf(g Graph) outlets {
	o := outlets{edges: g.Edges, of: make([][]int, g.Nodes)}
	for i, edge := range g.Edges {
		o.of[edge.From] = append(o.of[edge.From], i)
	}
	return o
}

// leaving yields the edges that leave a node in the order of their indices, each with the node to which it leads.
func (o outlets) leaving(node int) iter.Seq2[int, int] {
	return func(yield func(edge, to int) bool) {
		for _, i := range o.of[node] {
			if !yield(i, o.edges[i].To) {
				return
			}
		}
	}
}

// unreached is the distance of a node to which no path leads.
const unreached = -1

// distances returns the number of edges of a shortest path to each node.
func (o outlets) distances(from int) []int {
	distance := make([]int, len(o.of))
	for node := range distance {
		distance[node] = unreached
	}
	distance[from] = 0
	for queue := []int{from}; len(queue) > 0; queue = queue[1:] {
		for _, to := range o.leaving(queue[0]) {
			if distance[to] == unreached {
				distance[to] = distance[queue[0]] + 1
				queue = append(queue, to)
			}
		}
	}
	return distance
}

// allDistances returns the distances from each node.
func (o outlets) allDistances() [][]int {
	all := make([][]int, len(o.of))
	for node := range all {
		all[node] = o.distances(node)
	}
	return all
}

// Reach returns the nodes to which a path leads.
func Reach(g Graph, from int) ([]int, api.Errno) {
	distance, e := Distance(g, from)
	var reached []int
	for node, d := range distance {
		if d != unreached {
			reached = append(reached, node)
		}
	}
	return reached, e
}

// Distance returns the number of edges of a shortest path to each node.
func Distance(g Graph, from int) ([]int, api.Errno) {
	if e := checkWith(g, from); e != api.OK {
		return nil, e
	}
	return outletsOf(g).distances(from), api.OK
}

// Path returns the shortest path from a node to another one, as indices of edges.
func Path(g Graph, from, to int) (path []int, found bool, e api.Errno) {
	if e := checkWith(g, from, to); e != api.OK {
		return nil, false, e
	}
	path, found = shortest(g, from, to)
	return path, found, api.OK
}

// shortest returns the shortest path, if there is one: from each node on it the first edge that comes nearer.
func shortest(g Graph, from, to int) (path []int, found bool) {
	left := outletsOf(turned(g)).distances(to)
	if left[from] == unreached {
		return nil, false
	}
	o := outletsOf(g)
	for node := from; node != to; {
		edge, _ := o.first(node, func(next int) bool { return left[next] == left[node]-1 })
		path = append(path, edge)
		node = g.Edges[edge].To
	}
	return path, true
}

// first returns the first edge that leaves a node for one that is wanted, if there is one.
func (o outlets) first(node int, wanted func(next int) bool) (edge int, found bool) {
	for edge, next := range o.leaving(node) {
		if wanted(next) {
			return edge, true
		}
	}
	return 0, false
}

// Cycle returns the smallest cycle, as indices of edges.
func Cycle(g Graph) (cycle []int, found bool, e api.Errno) {
	if e := Check(g); e != api.OK {
		return nil, false, e
	}
	// The smallest cycle begins with the least edge of all cycles with the fewest edges: none of their edges is less, so that it is written from there.
	start, fewest := 0, 0
	all := outletsOf(g).allDistances()
	for i, edge := range g.Edges {
		back := all[edge.To][edge.From]
		if back != unreached && (!found || back < fewest) {
			start, fewest, found = i, back, true
		}
	}
	if !found {
		return nil, false, api.OK
	}
	rest, _ := shortest(g, g.Edges[start].To, g.Edges[start].From)
	return append([]int{start}, rest...), true, api.OK
}
