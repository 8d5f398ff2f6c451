package hitting

import (
	"iter"
	"maps"
	"math/bits"
	"slices"

	"bombarde/api"
	"bombarde/integer"
)

// lists are lists of numbers as sets: the set s is among them if the bit s % 64 of the word s / 64 is set.
type lists []uint64

// wordNumbers is how many numbers tell the lists of a word apart.
const wordNumbers = 6

// having has, for each of these numbers, the lists of a word that have it.
var having = [wordNumbers]uint64{
	0xaaaa_aaaa_aaaa_aaaa, 0xcccc_cccc_cccc_cccc, 0xf0f0_f0f0_f0f0_f0f0,
	0xff00_ff00_ff00_ff00, 0xffff_0000_ffff_0000, 0xffff_ffff_0000_0000,
}

// hitting returns all lists that hit all sets of a right problem.
func hitting(p Problem) lists {
	sets := setsOf(p)
	inWord := make([]uint64, len(sets)) // the lists of any word that hit a set by the numbers that tell them apart
	for i, s := range sets {
		for number := range wordNumbers {
			if s.has(number) {
				inWord[i] |= having[number]
			}
		}
	}
	all := make(lists, 1<<max(0, p.Numbers-wordNumbers))
	for w := range all {
		// With few numbers, a word has more bits than there are lists.
		all[w] = 1<<(1<<p.Numbers) - 1
		for i, s := range sets {
			if s>>wordNumbers&set(w) == 0 {
				all[w] &= inWord[i]
			}
		}
	}
	return all
}

// irreducible returns those of all lists that hit all sets of which no number can be left out.
func (l lists) irreducible(numbers int) lists {
	left := slices.Clone(l)
	for number := range numbers {
		for w := range l {
			if number < wordNumbers {
				left[w] &^= l[w] &^ having[number] << (1 << number)
			} else if bit := 1 << (number - wordNumbers); w&bit != 0 {
				left[w] &^= l[w^bit]
			}
		}
	}
	return left
}

// all yields lists one after another.
func (l lists) all() iter.Seq[set] {
	return func(yield func(set) bool) {
		for w, word := range l {
			for ; word != 0; word &= word - 1 {
				if !yield(set(w)<<wordNumbers | set(bits.TrailingZeros64(word))) {
					return
				}
			}
		}
	}
}

// count returns how many lists there are.
func (l lists) count() int {
	n := 0
	for _, word := range l {
		n += bits.OnesCount64(word)
	}
	return n
}

// compare returns the order of two lists of the same length: the lesser one has the least number that is in one of them only.
func compare(a, b set) int {
	differing := a ^ b
	switch first := differing & -differing; {
	case first == 0:
		return 0
	case a&first != 0:
		return -1
	}
	return 1
}

// irreducible returns the irreducible lists of a right problem, by their lengths.
func irreducible(p Problem) map[int][]set {
	found := map[int][]set{}
	for s := range hitting(p).irreducible(p.Numbers).all() {
		found[s.size()] = append(found[s.size()], s)
	}
	return found
}

// Least returns the first one of the shortest lists that hit all sets.
func Least(p Problem) ([]int, api.Errno) {
	if e := Check(p); e != api.OK {
		return nil, e
	}
	return least(p).list(), api.OK
}

// least returns the first list that hits all sets of a right problem.
func least(p Problem) set {
	found := irreducible(p)
	shortest := slices.Min(slices.Collect(maps.Keys(found)))
	return slices.MinFunc(found[shortest], compare)
}

// All returns all lists that hit all sets and of which nothing can be left out.
func All(p Problem, limit int) ([][]int, api.Errno) {
	if e := Check(p); e != api.OK {
		return nil, e
	}
	if limit < 1 || limit > MaxResults {
		return nil, api.ErrRange
	}
	found := irreducible(p)
	var all [][]int
	for _, length := range slices.Sorted(maps.Keys(found)) {
		if len(all)+len(found[length]) > limit {
			return nil, api.ErrLimit
		}
		for _, s := range slices.SortedFunc(slices.Values(found[length]), compare) {
			all = append(all, s.list())
		}
	}
	return all, api.OK
}

// Count returns how many lists hit all sets.
func Count(p Problem) (api.Int, api.Errno) {
	if e := Check(p); e != api.OK {
		return "", e
	}
	return integer.Of(hitting(p).count()), api.OK
}
