package share

import (
	"maps"
	"slices"

	"bombarde/api"
	"bombarde/organ"
)

// Pairs returns the pairs of different stops that share pipes.
func Pairs(o api.Organ) ([][2]Ref, api.Errno) {
	if e := organ.Check(o); e != api.OK {
		return nil, e
	}
	known := users(o)
	var l [][2]Ref
	for _, at := range stops(o) {
		for _, other := range partners(o, known, at) {
			l = append(l, [2]Ref{at, other})
		}
		if len(l) > MaxPairs {
			return nil, api.ErrLimit
		}
	}
	return l, api.OK
}

// partners returns the stops behind a stop that share pipes with it, in order; known has the users of each pipe.
func partners(o api.Organ, known map[api.Pipe][]Ref, at Ref) []Ref {
	behind := map[Ref]bool{}
	for p := range used(o, at) {
		for _, other := range known[p] {
			if compareRefs(at, other) < 0 {
				behind[other] = true
			}
		}
	}
	return slices.SortedFunc(maps.Keys(behind), compareRefs)
}

// forest has trees of stops, as the way from each stop towards the root of its tree. No stop is behind the root.
type forest map[Ref]Ref

// root returns the root of the tree of a stop, and shortens the way to it.
func (f forest) root(at Ref) Ref {
	for f[at] != at {
		f[at] = f[f[at]]
		at = f[at]
	}
	return at
}

// join joins the trees of two stops.
func (f forest) join(a, b Ref) {
	a, b = f.root(a), f.root(b)
	if compareRefs(a, b) > 0 {
		a, b = b, a
	}
	f[b] = a
}

// Groups returns the stops that are connected by pipes that they share.
func Groups(o api.Organ) ([][]Ref, api.Errno) {
	if e := organ.Check(o); e != api.OK {
		return nil, e
	}
	trees, all := forest{}, stops(o)
	for _, at := range all {
		trees[at] = at
	}
	for _, l := range users(o) {
		for _, other := range l[1:] {
			trees.join(l[0], other)
		}
	}
	var l [][]Ref
	place := map[Ref]int{} // the index of the group of each root
	for _, at := range all {
		root := trees.root(at)
		if root == at {
			place[root] = len(l)
			l = append(l, nil)
		}
		l[place[root]] = append(l[place[root]], at)
	}
	return l, api.OK
}
