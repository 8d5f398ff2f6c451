package covering

import (
	"iter"
	"math/bits"
	"slices"
)

// bitset is a set of numbers (of sets, or of elements): the bit k is the number k.
type bitset uint64

// bitsOf returns the set of the numbers of a list.
func bitsOf(l []int) bitset {
	var b bitset
	for _, n := range l {
		b = b.with(n)
	}
	return b
}

// allBelow returns all numbers that are less than one.
func allBelow(n int) bitset { return 1<<n - 1 }

func (b bitset) has(n int) bool       { return b>>n&1 == 1 }
func (b bitset) with(n int) bitset    { return b | 1<<n }
func (b bitset) without(n int) bitset { return b &^ (1 << n) }
func (b bitset) count() int           { return bits.OnesCount64(uint64(b)) }

// numbers yields the numbers of a set in increasing order.
func (b bitset) numbers() iter.Seq[int] {
	return func(yield func(int) bool) {
		for rest := b; rest != 0; rest &= rest - 1 {
			if !yield(bits.TrailingZeros64(uint64(rest))) {
				return
			}
		}
	}
}

// list returns the numbers of a set in increasing order.
func (b bitset) list() []int { return slices.Collect(b.numbers()) }

// table is a right problem: the elements and the cost of each set, and the holders of each element, which are the sets that have it.
type table struct {
	elements []bitset
	costs    []int
	holders  []bitset
}

// tableOf returns the table of a right problem.
func tableOf(p Problem) table {
	t := table{holders: make([]bitset, p.Elements)}
	for i, s := range p.Sets {
		t.elements = append(t.elements, bitsOf(s.Elements))
		t.costs = append(t.costs, s.Cost)
		for _, element := range s.Elements {
			t.holders[element] = t.holders[element].with(i)
		}
	}
	return t
}

// all returns all sets.
func (t table) all() bitset { return allBelow(len(t.elements)) }

// missing returns the elements that are in none of some sets.
func (t table) missing(sets bitset) bitset {
	missing := allBelow(len(t.holders))
	for i := range sets.numbers() {
		missing &^= t.elements[i]
	}
	return missing
}

// cost returns what some sets cost together.
func (t table) cost(sets bitset) int {
	total := 0
	for i := range sets.numbers() {
		total += t.costs[i]
	}
	return total
}

// packs reports whether no one of some sets has elements whose weights are together greater than its cost.
func (t table) packs(weights []int, sets bitset) bool {
	for i := range sets.numbers() {
		rest := t.costs[i]
		for element := range t.elements[i].numbers() {
			rest -= weights[element]
		}
		if rest < 0 {
			return false
		}
	}
	return true
}
