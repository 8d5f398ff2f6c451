package hitting

import (
	"cmp"
	"slices"

	"bombarde/api"
)

// rest is what is left of an open set: its numbers that are not left out.
type rest struct {
	index   int
	numbers set
}

// restsOf returns the rests of the open sets for some numbers that are taken, and some that are left out, beginning with the smallest ones. What contains another rest is not among them.
func restsOf(sets []set, taken, out set) []rest {
	var open []rest
	for i, s := range sets {
		if s&taken == 0 {
			open = append(open, rest{i, s &^ out})
		}
	}
	slices.SortFunc(open, func(a, b rest) int {
		return cmp.Or(cmp.Compare(a.numbers.size(), b.numbers.size()), cmp.Compare(a.numbers, b.numbers), cmp.Compare(a.index, b.index))
	})
	least := open[:0]
	for _, r := range open {
		if !slices.ContainsFunc(least, func(l rest) bool { return l.numbers&^r.numbers == 0 }) {
			least = append(least, r)
		}
	}
	return least
}

// prover makes a proof tree for a size.
type prover struct {
	sets []set
	size int
	tree []api.Node
}

// Prove returns a tree that proves that no list with fewer numbers than the size hits all sets.
func Prove(p Problem, size int) ([]api.Node, api.Errno) {
	if e := checkSize(p, size); e != api.OK {
		return nil, e
	}
	if least(p).size() < size {
		return nil, api.ErrNone
	}
	b := prover{sets: setsOf(p), size: size}
	b.grow(0, 0)
	return b.tree, api.OK
}

// checkSize returns the error of a problem, or of a size.
func checkSize(p Problem, size int) api.Errno {
	if e := Check(p); e != api.OK {
		return e
	}
	if size < 0 || size > p.Numbers {
		return api.ErrRange
	}
	return api.OK
}

// grow adds the node for some numbers that are taken, and some that are left out, and all nodes below it, and returns its index. Problems that were made to need many nodes need a tenth of MaxNodes.
func (b *prover) grow(taken, out set) int {
	at := len(b.tree)
	b.tree = append(b.tree, api.Node{})
	rests := restsOf(b.sets, taken, out)
	weights, closed := disjoint(rests, b.size-taken.size())
	node := api.Node{Weights: weights}
	if !closed {
		number := choice(rests)
		node = api.Node{Pick: number, Yes: b.grow(taken|1<<number, out), No: b.grow(taken, out|1<<number)}
	}
	b.tree[at] = node
	return at
}

// disjoint returns the indices of as many disjoint ones of some rests as are needed, if the smaller ones leave enough of the others free.
func disjoint(rests []rest, needed int) (indices []int, enough bool) {
	var used set
	for _, r := range rests {
		if len(indices) < needed && r.numbers&used == 0 {
			indices = append(indices, r.index)
			used |= r.numbers
		}
	}
	if len(indices) < needed {
		return nil, false
	}
	return indices, true
}

// choice returns the number that is in most rests, where each one counts twice as much as one with a number more.
//
// Rests with a single number do not count, since it must be taken anyway, so that no rest becomes empty. There are others as long as disjoint ones are not enough: otherwise the taken numbers and these single ones would hit all sets.
func choice(rests []rest) int {
	var counts [MaxNumbers]int
	for _, r := range rests {
		for _, number := range r.numbers.list() {
			if r.numbers.size() > 1 {
				counts[number] += 1 << (MaxNumbers - r.numbers.size())
			}
		}
	}
	return slices.Index(counts[:], slices.Max(counts[:]))
}

// verifier checks a tree for a size.
type verifier struct {
	numbers int
	sets    []set
	size    int
	tree    []api.Node
	reached []bool
}

// Verify returns the error of a proof tree for a size.
func Verify(p Problem, size int, tree []api.Node) api.Errno {
	if e := checkSize(p, size); e != api.OK {
		return e
	}
	switch {
	case len(tree) > MaxNodes:
		return api.ErrLimit
	case len(tree) == 0:
		return api.ErrEmpty
	}
	v := verifier{p.Numbers, setsOf(p), size, tree, make([]bool, len(tree))}
	if !v.proves(0, 0, 0) {
		return api.ErrCertificate
	}
	return api.OK
}

// proves reports whether a node is right for some numbers that are taken, and some that are left out, and so are all nodes below it.
func (v *verifier) proves(at int, taken, out set) bool {
	if v.reached[at] {
		return false
	}
	v.reached[at] = true
	n := v.tree[at]
	if n.Yes == 0 && n.No == 0 {
		return v.closes(n.Weights, taken, out)
	}
	within := func(node int) bool { return node > at && node < len(v.tree) }
	if !within(n.Yes) || !within(n.No) || n.Pick < 0 || n.Pick >= v.numbers || (taken | out).has(n.Pick) {
		return false
	}
	return v.proves(n.Yes, taken|1<<n.Pick, out) && v.proves(n.No, taken, out|1<<n.Pick)
}

// closes reports whether a leaf with some weights is right for some numbers that are taken, and some that are left out.
func (v *verifier) closes(weights []int, taken, out set) bool {
	var used set
	for i, index := range weights {
		if index < 0 || index >= len(v.sets) || slices.Contains(weights[:i], index) {
			return false
		}
		left := v.sets[index] &^ out
		if v.sets[index]&taken != 0 || left&used != 0 {
			return false
		}
		used |= left
	}
	return len(weights)+taken.size() >= v.size || len(weights) == 1 && used == 0
}
