package implicant_test

import (
	"math/bits"
	"math/rand"
	"slices"
	"testing"

	"bombarde/api"
	"bombarde/covering"
	"bombarde/implicant"
)

// subset returns the places that are bits of a number.
func subset(n int) []int {
	var l []int
	for ; n != 0; n &= n - 1 {
		l = append(l, bits.TrailingZeros(uint(n)))
	}
	return l
}

// literals returns how many literals some cubes have together.
func literals(l []cube) int {
	n := 0
	for _, c := range l {
		n += bits.OnesCount(uint(c.Care))
	}
	return n
}

// at returns the cubes at some places.
func at(l []cube, places []int) []cube {
	var some []cube
	for _, i := range places {
		some = append(some, l[i])
	}
	return some
}

// least is the definition of the least sum, of few prime implicants.
func least(t table, primes []cube) []cube {
	var best []int
	found := false
	for n := range 1 << len(primes) {
		places := subset(n)
		if found && len(places) > len(best) || !isSum(t, at(primes, places)) {
			continue
		}
		a, b := literals(at(primes, places)), literals(at(primes, best))
		if !found || len(places) < len(best) || a < b || a == b && slices.Compare(places, best) < 0 {
			best, found = places, true
		}
	}
	return at(primes, best)
}

// near reports whether two rows are in one implicant.
func near(t table, a, b int) bool {
	return slices.ContainsFunc(cubes(t.Variables), func(c cube) bool {
		return a&c.Care == c.Value && b&c.Care == c.Value && allIn(rows(c, t.Variables), t.On, t.Free)
	})
}

// apart is the definition of the rows that are apart and meant, of few rows.
func apart(t table) []int {
	nearRows := make([]int, len(t.On))
	for i, a := range t.On {
		for j, b := range t.On {
			if i != j && near(t, a, b) {
				nearRows[i] |= 1 << j
			}
		}
	}
	var best []int
	for n := range 1 << len(t.On) {
		places := subset(n)
		if len(places) < len(best) || slices.ContainsFunc(places, func(i int) bool { return nearRows[i]&n != 0 }) {
			continue
		}
		if len(places) > len(best) || slices.Compare(places, best) < 0 {
			best = places
		}
	}
	var l []int
	for _, i := range best {
		l = append(l, t.On[i])
	}
	return l
}

// P12.4
func TestLeastOfFewPrimes(t *testing.T) {
	r := rand.New(rand.NewSource(17))
	l := tables(3, 300)
	for range 150 {
		on := 1 + r.Intn(6)
		l = append(l, random(r, 4, on, r.Intn(10-on)))
	}
	for _, x := range l {
		p := primes(x)
		if len(p) > 10 {
			continue
		}
		want := least(x, p)
		if got, e := implicant.Least(x); !slices.Equal(got, want) || e != api.OK {
			t.Errorf("Least(%v) = %v, %d, not %v", x, got, e, want)
		}
	}
	for i, c := range []struct {
		t    table
		want []cube
	}{
		{table{Variables: 2, On: []int{1, 2, 3}}, []cube{{1, 1}, {2, 2}}},
		{table{Variables: 3, On: []int{1, 2, 3, 4, 5, 6}}, []cube{{3, 1}, {5, 4}, {6, 2}}},
		{table{Variables: 2, On: []int{1}, Free: []int{3}}, []cube{{1, 1}}},
		{table{}, nil},
		{table{On: []int{0}}, []cube{{}}},
		{table{Free: []int{0}}, nil},
		{table{Variables: 5}, nil},
	} {
		if got, e := implicant.Least(c.t); !slices.Equal(got, c.want) || e != api.OK {
			t.Errorf("%d: Least = %v, %d", i, got, e)
		}
	}
}

// ofWord returns the table of five variables whose On are the bits of a word, and whose Free are those of another one.
func ofWord(on, free uint32) table {
	return table{Variables: 5, On: subset(int(on)), Free: subset(int(free))}
}

// hard returns tables of five variables with as many primes as there can be, with many least sums, and those for which the search has been found to take longest.
func hard() []table {
	l := []table{ofWord(0xb6dbdb6d, 0), ofWord(0xe7799ee7, 0), ofWord(0x977e7ee9, 0), ofWord(0x96696996, 0), ofWord(0x69969669, 0), ofWord(0xe9e89ee1, 0x16060118)}
	var weights [6]uint32 // the rows with so many bits
	for row := range 32 {
		weights[bits.OnesCount(uint(row))] |= 1 << row
	}
	l = append(l, ofWord(weights[2]|weights[3], 0), ofWord(weights[2], weights[3]), ofWord(weights[1]|weights[4], weights[2]|weights[3]), ofWord(weights[1], weights[2]), ofWord(weights[2], weights[1]|weights[3]))
	r := rand.New(rand.NewSource(18))
	for range 120 {
		on := 1 + r.Intn(9)
		l = append(l, random(r, 5, on, r.Intn(11-on)))
	}
	return l
}

// isBest reports whether a sum of prime implicants is the least one: the least covers of a problem whose costs are first those of primes, and then those of literals.
func isBest(t *testing.T, x table, primes, sum []cube) bool {
	const prime = 1000
	p := covering.Problem{Elements: len(x.On)}
	for _, c := range primes {
		s := covering.Set{Cost: prime + literals([]cube{c})}
		for i, row := range x.On {
			if row&c.Care == c.Value {
				s.Elements = append(s.Elements, i)
			}
		}
		p.Sets = append(p.Sets, s)
	}
	cover, e := covering.Solve(p)
	if e != api.OK {
		t.Fatalf("Solve(%v) = %d", p, e)
	}
	return slices.Equal(at(primes, cover.Sets), sum)
}

// P12.4, P12.6
func TestLeastOfFiveVariables(t *testing.T) {
	most := 0
	for _, x := range hard() {
		p, _ := implicant.Primes(x)
		most = max(most, len(p))
		got, e := implicant.Least(x)
		if !isBest(t, x, p, got) || e != api.OK {
			t.Errorf("Least(%v) = %v, %d", x, got, e)
		}
		for _, c := range essential(x, p) {
			if !slices.Contains(got, c) {
				t.Errorf("Least(%v) = %v, without %v", x, got, c)
			}
		}
		rows, e := implicant.Apart(x)
		if len(rows) > len(got) || e != api.OK {
			t.Errorf("Apart(%v) = %v, %d", x, rows, e)
		}
	}
	if most != 32 {
		t.Errorf("at most %d primes", most)
	}
}

// P12.4
func TestApart(t *testing.T) {
	l := tables(4, 300)
	for _, x := range hard() {
		if len(x.On) <= 15 {
			l = append(l, x)
		}
	}
	for _, x := range l {
		if len(x.On) > 15 {
			continue
		}
		want := apart(x)
		if got, e := implicant.Apart(x); !slices.Equal(got, want) || e != api.OK {
			t.Errorf("Apart(%v) = %v, %d, not %v", x, got, e, want)
		}
	}
	var parity []int
	for row := range 32 {
		if bits.OnesCount(uint(row))%2 == 1 {
			parity = append(parity, row)
		}
	}
	for i, c := range []struct {
		t    table
		want []int
	}{
		{table{Variables: 2, On: []int{1, 2, 3}}, []int{1, 2}},
		{table{Variables: 3, On: []int{1, 2, 3, 4, 5, 6}}, []int{1, 2, 4}},
		{table{Variables: 5, On: parity}, parity},
		{table{Variables: 5, On: subset(1<<32 - 1)}, []int{0}},
		{table{Variables: 1, On: []int{1}, Free: []int{0}}, []int{1}},
		{table{Variables: 3}, nil},
		{table{Free: []int{0}}, nil},
	} {
		if got, e := implicant.Apart(c.t); !slices.Equal(got, c.want) || e != api.OK {
			t.Errorf("%d: Apart = %v, %d", i, got, e)
		}
	}
}

// P12.4
func TestTooManyVariables(t *testing.T) {
	for variables := range implicant.MaxVariables + 1 {
		want := api.OK
		if variables > 5 {
			want = api.ErrLimit
		}
		x := table{Variables: variables, On: []int{0}}
		l, e := implicant.Least(x)
		rows, f := implicant.Apart(x)
		if e != want || f != want || (e == api.OK) != (len(l) == 1) || (e == api.OK) != (len(rows) == 1) {
			t.Errorf("%d variables: Least = %v, %d, Apart = %v, %d", variables, l, e, rows, f)
		}
	}
}
