package covering_test

import (
	"math"
	"math/rand"
	"reflect"
	"slices"
	"testing"

	"bombarde/api"
	"bombarde/covering"
)

type (
	problem = covering.Problem
	set     = covering.Set
	cover   = covering.Cover
)

// example returns the problem of the first example.
func example() problem {
	return problem{3, []set{{[]int{0, 1}, 3}, {[]int{1, 2}, 3}, {[]int{0, 2}, 3}, {[]int{0, 1, 2}, 5}}}
}

// random returns a problem with some sets that have at least some elements, and cost at most a number.
func random(r *rand.Rand, elements, sets, least, most, cost int) problem {
	p := problem{Elements: elements}
	for range sets {
		l := r.Perm(elements)[:least+r.Intn(most-least+1)]
		slices.Sort(l)
		p.Sets = append(p.Sets, set{l, 1 + r.Intn(cost)})
	}
	return p
}

// problems returns small problems; not all of them have a cover.
func problems() []problem {
	r := rand.New(rand.NewSource(13))
	l := []problem{{}, {Elements: 1}, {0, []set{{nil, 1}}}, {1, []set{{nil, 1}}}, {1, []set{{[]int{0}, 7}}}, {2, []set{{[]int{0}, 1}}}, example()}
	for i := range 400 {
		elements := r.Intn(8)
		l = append(l, random(r, elements, r.Intn(10), 0, r.Intn(elements+1), []int{1, 2, 5, covering.MaxCost}[i%4]))
	}
	return l
}

// choices returns all increasing lists of numbers from 0 to n - 1, in lexicographic order.
func choices(n int) [][]int {
	l := [][]int{nil}
	for number := n - 1; number >= 0; number-- {
		var with [][]int
		for _, rest := range l {
			if len(rest) == 0 || rest[0] > number {
				with = append(with, append([]int{number}, rest...))
			}
		}
		l = append(append([][]int{nil}, with...), l[1:]...)
	}
	return l
}

// missing returns the elements that are in none of some sets.
func missing(p problem, sets []int) []int {
	var l []int
	for element := range p.Elements {
		if !slices.ContainsFunc(sets, func(i int) bool { return slices.Contains(p.Sets[i].Elements, element) }) {
			l = append(l, element)
		}
	}
	return l
}

// cost returns what some sets cost.
func cost(p problem, sets []int) int {
	total := 0
	for _, i := range sets {
		total += p.Sets[i].Cost
	}
	return total
}

// covers returns all covers, in lexicographic order, and the cost of the least ones.
func covers(p problem) (all [][]int, least int) {
	least = math.MaxInt
	for _, sets := range choices(len(p.Sets)) {
		if len(missing(p, sets)) == 0 {
			all = append(all, sets)
			least = min(least, cost(p, sets))
		}
	}
	return all, least
}

// everything returns the indices of all sets.
func everything(p problem) []int {
	var l []int
	for i := range p.Sets {
		l = append(l, i)
	}
	return l
}

// without returns a list without a number.
func without(l []int, n int) []int {
	return slices.DeleteFunc(slices.Clone(l), func(m int) bool { return m == n })
}

// wrong has problems that are not right, each with its error.
func wrong() []struct {
	p problem
	e api.Errno
} {
	of := func(elements ...int) problem { return problem{3, []set{{elements, 1}}} }
	return []struct {
		p problem
		e api.Errno
	}{
		{problem{Elements: -1}, api.ErrRange},
		{problem{math.MinInt, make([]set, covering.MaxSets+1)}, api.ErrRange},
		{problem{Elements: covering.MaxElements + 1}, api.ErrLimit},
		{problem{math.MaxInt, []set{{[]int{-1}, 0}}}, api.ErrLimit},
		{problem{2, make([]set, covering.MaxSets+1)}, api.ErrLimit},
		{of(3), api.ErrUnknown},
		{of(-1), api.ErrUnknown},
		{of(0, math.MaxInt), api.ErrUnknown},
		{of(0, math.MinInt), api.ErrUnknown},
		{of(0, 3, 3), api.ErrUnknown},
		{of(0, 0, 3), api.ErrOrder},
		{of(2, 1), api.ErrOrder},
		{of(0, 1, 1), api.ErrOrder},
		{problem{3, []set{{[]int{0}, 0}, {[]int{3}, 1}}}, api.ErrRange},
		{problem{3, []set{{[]int{0}, 1}, {[]int{3}, 0}}}, api.ErrUnknown},
		{problem{3, []set{{[]int{1, 0}, 0}}}, api.ErrOrder},
		{problem{3, []set{{nil, 0}}}, api.ErrRange},
		{problem{3, []set{{[]int{0, 1, 2}, -1}}}, api.ErrRange},
		{problem{3, []set{{[]int{0, 1, 2}, math.MinInt}}}, api.ErrRange},
		{problem{3, []set{{[]int{0, 1, 2}, covering.MaxCost + 1}}}, api.ErrRange},
		{problem{3, []set{{[]int{0, 1, 2}, math.MaxInt}}}, api.ErrRange},
		{problem{0, []set{{[]int{0}, 1}}}, api.ErrUnknown},
	}
}

// zero reports whether a cover is the zero value.
func zero(c cover) bool { return c.Sets == nil && c.Cost == 0 && c.Proof == nil }

// P10.1: all functions return the error of Check first, and zero values.
func TestCheck(t *testing.T) {
	for i, c := range wrong() {
		bad := []int{99, -5}
		lost, e1 := covering.Missing(c.p, bad)
		total, e2 := covering.Cost(c.p, bad)
		greedy, e3 := covering.Greedy(c.p)
		left, e4 := covering.Irredundant(c.p, bad)
		sum, e5 := covering.Packing(c.p, bad)
		essential, e6 := covering.Essential(c.p)
		best, e7 := covering.Solve(c.p)
		e8 := covering.Verify(c.p, cover{Sets: bad})
		all, e9 := covering.All(c.p)
		for k, e := range []api.Errno{covering.Check(c.p), e1, e2, e3, e4, e5, e6, e7, e8, e9} {
			if e != c.e {
				t.Errorf("%d: the function %d: %d, not %d", i, k, e, c.e)
			}
		}
		if lost != nil || total != 0 || greedy != nil || left != nil || sum != 0 || essential != nil || !zero(best) || all != nil {
			t.Errorf("%d: results with an error", i)
		}
	}
	great := problem{covering.MaxElements, make([]set, covering.MaxSets)}
	for i := range great.Sets {
		great.Sets[i] = set{[]int{i}, covering.MaxCost}
	}
	for _, p := range append(problems(), great) {
		if e := covering.Check(p); e != api.OK {
			t.Errorf("Check(%v) = %d", p, e)
		}
	}
}

// P10.2 to P10.6: the errors of lists of sets come in the order of their indices, and before all but those of Check.
func TestLists(t *testing.T) {
	for _, c := range []struct {
		l []int
		e api.Errno
	}{
		{[]int{4}, api.ErrUnknown}, {[]int{-1}, api.ErrUnknown}, {[]int{0, math.MaxInt}, api.ErrUnknown}, {[]int{0, math.MinInt}, api.ErrUnknown},
		{[]int{0, 4, 4}, api.ErrUnknown}, {[]int{0, 0, 4}, api.ErrOrder}, {[]int{3, 3}, api.ErrOrder}, {[]int{2, 1}, api.ErrOrder}, {[]int{0, 1, 0}, api.ErrOrder},
	} {
		lost, e1 := covering.Missing(example(), c.l)
		total, e2 := covering.Cost(example(), c.l)
		left, e3 := covering.Irredundant(example(), c.l)
		e4 := covering.Verify(example(), cover{Sets: c.l, Proof: make([]api.Node, covering.MaxNodes+1)})
		if e1 != c.e || e2 != c.e || e3 != c.e || e4 != c.e || lost != nil || total != 0 || left != nil {
			t.Errorf("%v: %d, %d, %d, %d, not %d", c.l, e1, e2, e3, e4, c.e)
		}
	}
}

// P10.2
func TestMissing(t *testing.T) {
	for _, p := range problems() {
		for _, sets := range choices(len(p.Sets)) {
			l, e := covering.Missing(p, sets)
			total, f := covering.Cost(p, sets)
			if e != api.OK || f != api.OK || !slices.Equal(l, missing(p, sets)) || total != cost(p, sets) {
				t.Errorf("%v, %v: Missing = %v, %d, Cost = %d, %d", p, sets, l, e, total, f)
			}
		}
	}
}

// greedy returns the cover that is made step by step, found by fractions.
func greedy(p problem) []int {
	var taken []int
	for lost := missing(p, taken); len(lost) > 0; lost = missing(p, taken) {
		best, bestCount := -1, 0
		for i, s := range p.Sets {
			count := 0
			for _, element := range s.Elements {
				if slices.Contains(lost, element) {
					count++
				}
			}
			if count > 0 && (best < 0 || s.Cost*bestCount < p.Sets[best].Cost*count) {
				best, bestCount = i, count
			}
		}
		taken = append(taken, best)
	}
	slices.Sort(taken)
	return taken
}

// P10.3 and P10.7
func TestGreedy(t *testing.T) {
	found := 0
	for _, p := range problems() {
		got, e := covering.Greedy(p)
		if len(missing(p, everything(p))) > 0 {
			if got != nil || e != api.ErrNone {
				t.Errorf("Greedy(%v) = %v, %d", p, got, e)
			}
			continue
		}
		found++
		if want := greedy(p); e != api.OK || !slices.Equal(got, want) || len(missing(p, got)) > 0 {
			t.Errorf("Greedy(%v) = %v, %d, not %v", p, got, e, want)
		}
	}
	if found < 50 {
		t.Errorf("%d problems have covers", found)
	}
	for _, c := range []struct {
		p    problem
		want []int
	}{
		{example(), []int{0, 1}}, // 3/2 is less than 5/3; then all sets cost 3 or more for the last element
		{problem{3, []set{{[]int{0}, 2}, {[]int{0, 1, 2}, 6}, {[]int{1, 2}, 4}}}, []int{0, 2}}, // all cost 2 for each element
		{problem{2, []set{{[]int{0, 1}, 1000000}, {[]int{0}, 499999}, {[]int{1}, 500001}}}, []int{1, 2}},
		{problem{3, []set{{[]int{2}, 1}, {nil, 1}, {[]int{0, 1}, 3}, {[]int{0, 1, 2}, 4}}}, []int{0, 2}},
		{problem{2, []set{{[]int{1}, 3}, {[]int{0, 1}, 2}, {[]int{0, 1}, 2}}}, []int{1}},
	} {
		if got, e := covering.Greedy(c.p); e != api.OK || !slices.Equal(got, c.want) {
			t.Errorf("Greedy(%v) = %v, %d, not %v", c.p, got, e, c.want)
		}
	}
}

// P10.3 and P10.7: what Irredundant returns needs all of its sets.
func TestIrredundant(t *testing.T) {
	for _, p := range problems() {
		for _, sets := range choices(len(p.Sets)) {
			got, e := covering.Irredundant(p, sets)
			if len(missing(p, sets)) > 0 {
				if got != nil || e != api.ErrForm {
					t.Errorf("Irredundant(%v, %v) = %v, %d", p, sets, got, e)
				}
				continue
			}
			want := slices.Clone(sets)
			for place := len(sets) - 1; place >= 0; place-- {
				if others := without(want, sets[place]); len(missing(p, others)) == 0 {
					want = others
				}
			}
			if e != api.OK || !slices.Equal(got, want) || len(missing(p, got)) > 0 {
				t.Errorf("Irredundant(%v, %v) = %v, %d, not %v", p, sets, got, e, want)
			}
			for _, i := range got {
				if len(missing(p, without(got, i))) == 0 {
					t.Errorf("Irredundant(%v, %v) = %v does not need %d", p, sets, got, i)
				}
			}
		}
	}
	if got, e := covering.Irredundant(example(), []int{0, 1, 2, 3}); e != api.OK || !slices.Equal(got, []int{0, 1}) {
		t.Errorf("Irredundant of the example = %v, %d", got, e)
	}
}

// packing reports whether weights are a packing.
func packing(p problem, weights []int) bool {
	for _, s := range p.Sets {
		total := 0
		for _, element := range s.Elements {
			total += weights[element]
		}
		if total > s.Cost {
			return false
		}
	}
	return true
}

// P10.4 and P10.7: no packing has a greater sum than the cost of a cover.
func TestPacking(t *testing.T) {
	for i, c := range []struct {
		weights []int
		want    int
		e       api.Errno
	}{
		{[]int{1, 1, 1}, 3, api.OK},
		{[]int{0, 0, 0}, 0, api.OK},
		{[]int{0, 3, 0}, 3, api.OK},
		{[]int{2, 1, 1}, 4, api.OK},
		{[]int{2, 1, 2}, 0, api.ErrCertificate},
		{[]int{0, 3, 1}, 0, api.ErrCertificate},
		{[]int{0, 4, 0}, 0, api.ErrCertificate},
		{[]int{covering.MaxCost, 0, 0}, 0, api.ErrCertificate},
		{[]int{covering.MaxCost + 1, 0, 0}, 0, api.ErrRange},
		{[]int{9, 9, -1}, 0, api.ErrRange},
		{[]int{9, math.MaxInt, 9}, 0, api.ErrRange},
		{[]int{math.MinInt, 0, 0}, 0, api.ErrRange},
		{[]int{1, 1}, 0, api.ErrSize},
		{[]int{-1, 1, 1, 1}, 0, api.ErrSize},
		{nil, 0, api.ErrSize},
	} {
		if got, e := covering.Packing(example(), c.weights); got != c.want || e != c.e {
			t.Errorf("%d: Packing(%v) = %d, %d, not %d, %d", i, c.weights, got, e, c.want, c.e)
		}
	}
	if got, e := covering.Packing(problem{}, nil); got != 0 || e != api.OK {
		t.Errorf("Packing of nothing = %d, %d", got, e)
	}
	// Without sets that have it, an element can have any weight.
	if got, e := covering.Packing(problem{2, []set{{[]int{1}, 5}}}, []int{covering.MaxCost, 5}); got != covering.MaxCost+5 || e != api.OK {
		t.Errorf("Packing of an element in no set = %d, %d", got, e)
	}
	r := rand.New(rand.NewSource(14))
	for _, p := range problems() {
		_, least := covers(p)
		for range 20 {
			weights, sum := make([]int, p.Elements), 0
			for element := range weights {
				weights[element] = r.Intn(3)
				sum += weights[element]
			}
			got, e := covering.Packing(p, weights)
			if packing(p, weights) != (e == api.OK) || e == api.OK && (got != sum || sum > least) || e != api.OK && (got != 0 || e != api.ErrCertificate) {
				t.Errorf("Packing(%v, %v) = %d, %d", p, weights, got, e)
			}
		}
	}
}

// P10.4 and P10.7: all essential sets are in all covers.
func TestEssential(t *testing.T) {
	for _, p := range problems() {
		got, e := covering.Essential(p)
		all, _ := covers(p)
		if len(all) == 0 {
			if got != nil || e != api.ErrNone {
				t.Errorf("Essential(%v) = %v, %d", p, got, e)
			}
			continue
		}
		var want []int
		for _, i := range everything(p) {
			if !slices.ContainsFunc(all, func(sets []int) bool { return !slices.Contains(sets, i) }) {
				want = append(want, i)
			}
		}
		if e != api.OK || !slices.Equal(got, want) {
			t.Errorf("Essential(%v) = %v, %d, not %v", p, got, e, want)
		}
	}
}

// P10.1 to P10.6: arguments stay as they are, and results are new.
func TestNew(t *testing.T) {
	p, kept := example(), example()
	p.Elements, kept.Elements = 4, 4
	p.Sets = append(p.Sets, set{[]int{3}, 2}, set{[]int{3}, 2})
	kept.Sets = append(kept.Sets, set{[]int{3}, 2}, set{[]int{3}, 2})
	sets, weights := []int{0, 1, 2, 4}, []int{1, 1, 1, 2}
	call := func() []any {
		lost, _ := covering.Missing(p, []int{0})
		greedy, _ := covering.Greedy(p)
		left, _ := covering.Irredundant(p, sets)
		sum, _ := covering.Packing(p, weights)
		essential, _ := covering.Essential(p)
		best, _ := covering.Solve(p)
		all, _ := covering.All(p)
		return []any{lost, greedy, left, sum, essential, best, all}
	}
	got, again := call(), call()
	each := func(change func(l []int)) {
		for _, result := range got {
			switch r := result.(type) {
			case []int:
				change(r)
			case [][]int:
				for _, l := range r {
					change(l)
				}
			case cover:
				change(r.Sets)
				for _, n := range r.Proof {
					change(n.Weights)
				}
			}
		}
	}
	each(func(l []int) { _ = append(l, 77) })
	if !reflect.DeepEqual(got, again) {
		t.Errorf("the results became %v, not %v", got, again)
	}
	each(func(l []int) { clear(l) })
	if !reflect.DeepEqual(p, kept) || !slices.Equal(sets, []int{0, 1, 2, 4}) || !slices.Equal(weights, []int{1, 1, 1, 2}) {
		t.Errorf("the arguments became %v, %v, %v", p, sets, weights)
	}
	if last := call(); !reflect.DeepEqual(again, last) {
		t.Errorf("the results became %v, not %v", last, again)
	}
}
