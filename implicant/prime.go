package implicant

import (
	"slices"

	"bombarde/api"
)

// cubes knows the cubes of a table: by their Care, and by any of their rows, those whose rows are all in On or Free, and those that have a row of On.
type cubes struct {
	allowed, needed [][]bool
}

// cubesOf returns what is known of the cubes of a right table.
func cubesOf(t Table) cubes {
	return cubes{
		allowed: summed(marks(t.Variables, t.On, t.Free), func(a, b bool) bool { return a && b }),
		needed:  summed(marks(t.Variables, t.On), func(a, b bool) bool { return a || b }),
	}
}

// summed returns, for each Care and each row of a cube, what the values of all rows of the cube are together; a function puts two of them together.
func summed(rows []bool, both func(a, b bool) bool) [][]bool {
	all := len(rows) - 1
	sums := make([][]bool, len(rows))
	sums[all] = rows
	for care := all - 1; care >= 0; care-- {
		// A cube that does not care for a variable is made of two that do.
		free := (care + 1) &^ care
		sums[care] = make([]bool, len(rows))
		for row := range len(rows) {
			sums[care][row] = both(sums[care|free][row], sums[care|free][row^free])
		}
	}
	return sums
}

// implicant reports whether a cube is an implicant.
func (k cubes) implicant(c Cube) bool {
	return k.allowed[c.Care][c.Value] && k.needed[c.Care][c.Value]
}

// prime reports whether a cube is a prime implicant.
func (k cubes) prime(c Cube) bool {
	if !k.implicant(c) {
		return false
	}
	for rest := c.Care; rest != 0; rest &= rest - 1 {
		if k.allowed[c.Care&^(rest&-rest)][c.Value] {
			return false
		}
	}
	return true
}

// primes returns all prime implicants, in order.
func (k cubes) primes() []Cube {
	var l []Cube
	for care := range len(k.allowed) {
		for value := range care + 1 {
			if c := (Cube{care, value}); value&^care == 0 && k.prime(c) {
				l = append(l, c)
			}
		}
	}
	slices.SortFunc(l, compare)
	return l
}

// Primes returns all prime implicants.
func Primes(t Table) ([]Cube, api.Errno) {
	if e := Check(t); e != api.OK {
		return nil, e
	}
	return cubesOf(t).primes(), api.OK
}

// Essential returns the prime implicants that have a row of On which no other one has.
func Essential(t Table) ([]Cube, api.Errno) {
	if e := Check(t); e != api.OK {
		return nil, e
	}
	primes := cubesOf(t).primes()
	essential := make([]bool, len(primes))
	for _, row := range t.On {
		if l := having(primes, row); len(l) == 1 {
			essential[l[0]] = true
		}
	}
	var l []Cube
	for place, c := range primes {
		if essential[place] {
			l = append(l, c)
		}
	}
	return l, api.OK
}

// having returns the places of the cubes that have a row.
func having(l []Cube, row int) []int {
	var places []int
	for place, c := range l {
		if c.has(row) {
			places = append(places, place)
		}
	}
	return places
}

// Verify returns the error of a sum.
func Verify(t Table, sum []Cube) api.Errno {
	if e := Check(t); e != api.OK {
		return e
	}
	known := cubesOf(t)
	for _, c := range sum {
		switch {
		case !c.isCube(t.Variables):
			return api.ErrForm
		case !known.implicant(c):
			return api.ErrCertificate
		}
	}
	for _, row := range t.On {
		if !slices.ContainsFunc(sum, func(c Cube) bool { return c.has(row) }) {
			return api.ErrCertificate
		}
	}
	return api.OK
}
