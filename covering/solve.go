package covering

import (
	"cmp"
	"iter"
	"math"
	"slices"

	"bombarde/api"
)

// The kinds of nodes that end a proof, as their Pick.
const (
	boundPick = -1
	gapPick   = -2
)

// maxVisits is how many nodes are visited for the least cost, or for all least covers. The tree of 16 sets has less.
const maxVisits = 20 * MaxNodes

// Solve returns the first least cover with its cost and a proof.
func Solve(p Problem) (Cover, api.Errno) {
	t, e := tableToCover(p)
	if e != api.OK {
		return Cover{}, e
	}
	cover, found := t.least()
	if !found {
		return Cover{}, api.ErrLimit
	}
	cost := t.cost(cover)
	b := prover{table: t, claim: cost}
	b.grow(0, 0)
	if len(b.nodes) > MaxNodes {
		return Cover{}, api.ErrLimit
	}
	return Cover{Sets: t.firstAlike(cover).list(), Cost: cost, Proof: b.nodes}, api.OK
}

// All returns all least covers.
func All(p Problem) ([][]int, api.Errno) {
	t, e := tableToCover(p)
	if e != api.OK {
		return nil, e
	}
	cover, found := t.least()
	if !found {
		return nil, api.ErrLimit
	}
	s := search{table: t, below: t.cost(cover) + 1, visits: maxVisits}
	var all [][]int
	for cover := range s.covers(0, 0) {
		all = append(all, cover.list())
		if len(all) > MaxList {
			return nil, api.ErrLimit
		}
	}
	if s.visits < 0 {
		return nil, api.ErrLimit
	}
	slices.SortFunc(all, slices.Compare)
	return all, api.OK
}

// least returns a least cover of a problem that has a cover.
func (t table) least() (cover bitset, found bool) {
	cover = t.greedy()
	s := search{table: t, below: t.cost(cover), visits: maxVisits}
	for better := range s.covers(0, 0) {
		cover, s.below = better, t.cost(better)
	}
	return cover, s.visits >= 0
}

// firstAlike returns the first one of all covers with the cost of a least cover.
func (t table) firstAlike(cover bitset) bitset {
	s := search{table: t, below: t.cost(cover) + 1, visits: math.MaxInt}
	var taken, out bitset
	for i := range t.elements {
		// The cover that is known has all that is taken, and nothing of what is left out.
		if !cover.has(i) {
			other, found := s.one(taken.with(i), out)
			if !found {
				out = out.with(i)
				continue
			}
			cover = other
		}
		taken = taken.with(i)
	}
	return cover
}

// search looks for covers with less than a cost, going through a tree of choices: at each node some sets are taken, and some are left out.
type search struct {
	table
	below  int
	visits int // that are left; less than 0 if there were too few
}

// one returns a cover that has some sets, and has not some others.
func (s *search) one(taken, out bitset) (cover bitset, found bool) {
	for cover := range s.covers(taken, out) {
		return cover, true
	}
	return 0, false
}

// covers yields covers that cost less than below, which may become less between them, with some sets, and without others; each other cover of this kind contains one of them.
func (s *search) covers(taken, out bitset) iter.Seq[bitset] {
	return func(yield func(bitset) bool) { s.visit(taken, out, yield) }
}

// visit yields the covers of a node, and reports whether the search goes on.
func (s *search) visit(taken, out bitset, yield func(bitset) bool) bool {
	s.visits--
	if s.visits < 0 {
		return false
	}
	if _, closed := s.leaf(taken, out, s.below); closed {
		return true
	}
	if s.missing(taken) == 0 {
		return yield(taken)
	}
	i := s.choice(taken, out)
	return s.visit(taken.with(i), out, yield) && s.visit(taken, out.with(i), yield)
}

// prover makes a proof that no cover costs less than the claim.
type prover struct {
	table
	claim int
	nodes []api.Node
}

// grow adds the node for some sets that are taken, and some that are left out, and all nodes below it, unless there are too many, and returns its index.
func (b *prover) grow(taken, out bitset) int {
	at := len(b.nodes)
	if at > MaxNodes {
		return at
	}
	b.nodes = append(b.nodes, api.Node{})
	node, closed := b.leaf(taken, out, b.claim)
	if !closed {
		i := b.choice(taken, out)
		node = api.Node{Pick: i, Yes: b.grow(taken.with(i), out), No: b.grow(taken, out.with(i))}
	}
	b.nodes[at] = node
	return at
}

// leaf returns the node that proves that no cover with some sets, and without others, has less than a cost, if there is one.
func (t table) leaf(taken, out bitset, cost int) (n api.Node, closed bool) {
	missing := t.missing(taken)
	for element := range missing.numbers() {
		if t.holders[element]&^out == 0 {
			return api.Node{Pick: gapPick, Bound: element}, true
		}
	}
	takenCost := t.cost(taken)
	weights := t.weights(missing, out, cost-takenCost)
	if bound := takenCost + sum(weights); bound >= cost {
		return api.Node{Pick: boundPick, Bound: bound, Weights: weights}, true
	}
	return api.Node{}, false
}

// weights returns a packing of elements that are missing, for the sets that are not left out. As many of them as it takes for a sum get as much as the sets have left, beginning with those that the fewest sets have.
func (t table) weights(missing, out bitset, enough int) []int {
	weights, left := make([]int, len(t.holders)), slices.Clone(t.costs)
	for _, element := range t.byHolders(missing, out) {
		if enough <= 0 {
			break
		}
		holders := t.holders[element] &^ out
		least := MaxCost
		for i := range holders.numbers() {
			least = min(least, left[i])
		}
		for i := range holders.numbers() {
			left[i] -= least
		}
		weights[element] = least
		enough -= least
	}
	return weights
}

// byHolders returns some elements in the order of how many sets have them that are not left out.
func (t table) byHolders(elements, out bitset) []int {
	l := elements.list()
	slices.SortStableFunc(l, func(a, b int) int {
		return cmp.Compare((t.holders[a] &^ out).count(), (t.holders[b] &^ out).count())
	})
	return l
}

// choice returns the set to be tried: that with most missing elements, where each one counts twice as much as one that one set more has. Elements of sets that must be taken anyway do not count, as long as there are others.
func (t table) choice(taken, out bitset) int {
	missing := t.missing(taken)
	var must bitset
	for element := range missing.numbers() {
		if holders := t.holders[element] &^ out; holders.count() == 1 {
			must |= holders
		}
	}
	counting := missing & t.missing(must)
	if counting == 0 {
		return must.list()[0]
	}
	counts := make([]int, len(t.elements))
	for element := range counting.numbers() {
		holders := t.holders[element] &^ out
		for i := range holders.numbers() {
			counts[i] += 1 << (MaxSets - holders.count())
		}
	}
	return slices.Index(counts, slices.Max(counts))
}
