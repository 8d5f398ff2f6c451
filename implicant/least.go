package implicant

import (
	"math"
	"math/bits"
	"slices"

	"bombarde/api"
)

// maxSearched is the greatest number of variables of a table for which the best choice is sought.
const maxSearched = 5

// set is a set of rows, or of places in the list of prime implicants: the bit n is the number n. A table of maxSearched variables has at most as many of both as there are bits; for prime implicants, a run through all functions of so many variables has shown it.
type set uint32

// setBits is how many numbers a set can have.
const setBits = 1 << maxSearched

// setOf returns the set of some numbers.
func setOf(l []int) set {
	var s set
	for _, n := range l {
		s |= 1 << n
	}
	return s
}

// least returns the least number of a set that is not empty.
func (s set) least() int { return bits.TrailingZeros32(uint32(s)) }

// size returns how many numbers a set has.
func (s set) size() int { return bits.OnesCount32(uint32(s)) }

// list returns the numbers of a set in increasing order.
func (s set) list() []int {
	var l []int
	for ; s != 0; s &= s - 1 {
		l = append(l, s.least())
	}
	return l
}

// before reports whether the list of a set comes before that of another set with as many numbers.
func (s set) before(other set) bool {
	return bits.Reverse32(uint32(s)) > bits.Reverse32(uint32(other))
}

// searched returns what is known of the cubes of a table for which the best choice is sought, or its error.
func searched(t Table) (cubes, api.Errno) {
	if e := Check(t); e != api.OK {
		return cubes{}, e
	}
	if t.Variables > maxSearched {
		return cubes{}, api.ErrLimit
	}
	return cubesOf(t), api.OK
}

// Apart returns the first one of the longest lists of rows of which no two are in one implicant.
func Apart(t Table) ([]int, api.Errno) {
	known, e := searched(t)
	if e != api.OK {
		return nil, e
	}
	near := make([]set, 1<<t.Variables)
	for _, a := range t.On {
		for _, b := range t.On {
			if a != b && known.together(a, b) {
				near[a] |= 1 << b
			}
		}
	}
	return mostApart(near, setOf(t.On)).list(), api.OK
}

// together reports whether an implicant has two rows of On: the least cube that has them is one.
func (k cubes) together(a, b int) bool {
	all := len(k.allowed) - 1
	return k.allowed[all&^(a^b)][a]
}

// mostApart returns the first one of the greatest sets of rows of which no two are near one another.
func mostApart(near []set, rows set) set {
	if rows == 0 {
		return 0
	}
	row := rows.least()
	for rest := rows; rest != 0; rest &= rest - 1 {
		if i := rest.least(); (near[i] & rows).size() > (near[row] & rows).size() {
			row = i
		}
	}
	without := rows &^ (1 << row)
	with := 1<<row | mostApart(near, without&^near[row])
	if near[row]&rows == 0 {
		return with
	}
	other := mostApart(near, without)
	if more := other.size() - with.size(); more > 0 || more == 0 && other.before(with) {
		return other
	}
	return with
}

// Least returns the least sum.
func Least(t Table) ([]Cube, api.Errno) {
	known, e := searched(t)
	if e != api.OK {
		return nil, e
	}
	primes := known.primes()
	var sum []Cube
	for _, place := range choiceOf(t, primes).cheapest(setOf(t.On)) {
		sum = append(sum, primes[place])
	}
	return sum, api.OK
}

// choice asks for the cheapest places of which every row has one.
type choice struct {
	places []set // of each row
	rows   []set // of each place
	costs  []int // of the places, which increase
}

// choiceOf returns the choice among the prime implicants of a table, which are in order.
func choiceOf(t Table, primes []Cube) choice {
	c := choice{places: make([]set, 1<<t.Variables), rows: make([]set, len(primes)), costs: make([]int, len(primes))}
	for place, prime := range primes {
		c.costs[place] = costOf(place, prime.literals())
	}
	for _, row := range t.On {
		c.places[row] = setOf(having(primes, row))
		for _, place := range c.places[row].list() {
			c.rows[place] |= 1 << row
		}
	}
	return c
}

// costOf returns the cost of a prime implicant. Sums of costs compare first by the number of primes, then by that of the literals, and then by the places: of lists of the same length, the first one has the greatest sum of powers of 2 that become less from place to place, and the cost has these with a minus.
func costOf(place, literals int) int {
	const (
		literal = setBits << setBits // more than what depends on places, summed up
		prime   = literal << 8       // more than the literals of all primes
	)
	return prime + literals*literal + 1<<setBits - 1<<(setBits-1-place)
}

// cheapest returns the places with the least costs of which all missing rows have one.
func (c choice) cheapest(missing set) []int {
	var best []int
	lowest := math.MaxInt
	var seek func(missing, open set, taken []int, cost int)
	seek = func(missing, open set, taken []int, cost int) {
		if missing == 0 {
			best, lowest = taken, cost
			return
		}
		for _, place := range c.fewest(missing, open).list() {
			open &^= 1 << place
			left, more := missing&^c.rows[place], cost+c.costs[place]
			if more+c.bound(left, open) < lowest {
				// The other places go on from the same list.
				seek(left, open, append(taken[:len(taken):len(taken)], place), more)
			}
		}
	}
	seek(missing, math.MaxUint32, nil, 0)
	slices.Sort(best)
	return best
}

// fewest returns the open places of the missing row that has the fewest of them.
func (c choice) fewest(missing, open set) set {
	fewest := open
	for ; missing != 0; missing &= missing - 1 {
		if places := c.places[missing.least()] & open; places.size() < fewest.size() {
			fewest = places
		}
	}
	return fewest
}

// bound returns a number that no open places of which all missing rows have one cost less than: rows without a place in common need one each.
func (c choice) bound(missing, open set) int {
	cost := 0
	var used set
	for ; missing != 0; missing &= missing - 1 {
		places := c.places[missing.least()] & open
		switch {
		case places == 0:
			return math.MaxInt / 2
		case places&used == 0:
			used |= places
			cost += c.costs[places.least()]
		}
	}
	return cost
}
