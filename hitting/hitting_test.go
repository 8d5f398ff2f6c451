package hitting_test

import (
	"math"
	"math/rand"
	"reflect"
	"slices"
	"strconv"
	"testing"

	"bombarde/api"
	"bombarde/hitting"
)

type problem = hitting.Problem

// subsets returns all increasing lists of numbers from 0 to n - 1 in order: shorter ones first, then lexicographically.
func subsets(n int) [][]int {
	l := [][]int{nil}
	for at := 0; at < len(l); at++ {
		first := 0
		if len(l[at]) > 0 {
			first = slices.Max(l[at]) + 1
		}
		for number := first; number < n; number++ {
			l = append(l, append(slices.Clone(l[at]), number))
		}
	}
	return l
}

// meet reports whether two lists have a number in common.
func meet(a, b []int) bool {
	return slices.ContainsFunc(a, func(number int) bool { return slices.Contains(b, number) })
}

// missed returns the index of the first set that a list does not hit, -1 if there is none.
func missed(p problem, l []int) int {
	return slices.IndexFunc(p.Sets, func(s []int) bool { return !meet(s, l) })
}

// without returns a list without the number at a place.
func without(l []int, place int) []int { return slices.Delete(slices.Clone(l), place, place+1) }

// irreducible reports whether a list hits all sets, and no list with one number less of it does.
func irreducible(p problem, l []int) bool {
	for place := range l {
		if missed(p, without(l, place)) < 0 {
			return false
		}
	}
	return missed(p, l) < 0
}

// random returns a problem with some sets.
func random(r *rand.Rand, numbers, sets, least, most int) problem {
	p := problem{Numbers: numbers}
	for range sets {
		l := r.Perm(numbers)[:least+r.Intn(most-least+1)]
		slices.Sort(l)
		p.Sets = append(p.Sets, l)
	}
	return p
}

// problems returns small problems.
func problems() []problem {
	r := rand.New(rand.NewSource(9))
	l := []problem{{}, {Numbers: 1}, {Numbers: 1, Sets: [][]int{{0}}}, {Numbers: 3, Sets: [][]int{{0, 1}, {1, 2}, {0, 2}}}, {Numbers: 7}}
	for i := range 400 {
		numbers := 1 + i%8
		l = append(l, random(r, numbers, r.Intn(10), 1, 1+r.Intn(numbers)))
	}
	return l
}

// complete returns all sets of a size of some numbers.
func complete(from, numbers, size int) [][]int {
	var sets [][]int
	for _, l := range subsets(numbers) {
		if len(l) != size {
			continue
		}
		for i := range l {
			l[i] += from
		}
		sets = append(sets, l)
	}
	return sets
}

// groups returns the problem of 20 numbers whose sets are complete in groups of numbers, each one with a number and a size.
func groups(l ...[2]int) problem {
	p := problem{Numbers: hitting.MaxNumbers}
	from := 0
	for _, g := range l {
		p.Sets = append(p.Sets, complete(from, g[0], g[1])...)
		from += g[0]
	}
	return p
}

// one returns how many sets {0} there shall be.
func one(sets int) [][]int {
	l := make([][]int, sets)
	for i := range l {
		l[i] = []int{0}
	}
	return l
}

// wrong has problems that are not right, each with its error.
func wrong() []struct {
	p problem
	e api.Errno
} {
	return []struct {
		p problem
		e api.Errno
	}{
		{problem{Numbers: -1}, api.ErrRange},
		{problem{Numbers: math.MinInt, Sets: make([][]int, 101)}, api.ErrRange},
		{problem{Numbers: hitting.MaxNumbers + 1}, api.ErrRange},
		{problem{Numbers: math.MaxInt, Sets: [][]int{{}}}, api.ErrRange},
		{problem{Numbers: 1, Sets: one(hitting.MaxSets + 1)}, api.ErrLimit},
		{problem{Numbers: 1, Sets: make([][]int, hitting.MaxSets+1)}, api.ErrLimit},
		{problem{Numbers: 2, Sets: [][]int{{}}}, api.ErrEmpty},
		{problem{Numbers: 2, Sets: [][]int{{0}, nil, {7}}}, api.ErrEmpty},
		{problem{Sets: [][]int{nil}}, api.ErrEmpty},
		{problem{Sets: [][]int{{0}}}, api.ErrRange},
		{problem{Numbers: 2, Sets: [][]int{{0, 2}, {}}}, api.ErrRange},
		{problem{Numbers: 2, Sets: [][]int{{-1}}}, api.ErrRange},
		{problem{Numbers: 2, Sets: [][]int{{math.MinInt, 0}}}, api.ErrRange},
		{problem{Numbers: 2, Sets: [][]int{{math.MaxInt, 0}}}, api.ErrRange},
		{problem{Numbers: 3, Sets: [][]int{{0, 3, 3}}}, api.ErrRange},
		{problem{Numbers: 3, Sets: [][]int{{0, 0, 3}}}, api.ErrOrder},
		{problem{Numbers: 3, Sets: [][]int{{1, 2}, {2, 1}, {3}}}, api.ErrOrder},
		{problem{Numbers: 3, Sets: [][]int{{0, 2, 1}}}, api.ErrOrder},
	}
}

// P9.1: all functions return the error of Check first, and zero values.
func TestCheck(t *testing.T) {
	for i, c := range wrong() {
		bad := []int{9, -5}
		first, all, e1 := hitting.Hits(c.p, bad)
		reduced, e2 := hitting.Reduce(c.p, bad)
		least, e3 := hitting.Least(c.p)
		lists, e4 := hitting.All(c.p, 0)
		count, e5 := hitting.Count(c.p)
		tree, e6 := hitting.Prove(c.p, -1)
		e7 := hitting.Verify(c.p, -1, nil)
		disjoint, e8 := hitting.Disjoint(c.p)
		for k, e := range []api.Errno{hitting.Check(c.p), e1, e2, e3, e4, e5, e6, e7, e8} {
			if e != c.e {
				t.Errorf("%d: the function %d: %d, not %d", i, k, e, c.e)
			}
		}
		if first != 0 || all || reduced != nil || least != nil || lists != nil || count != "" || tree != nil || disjoint != nil {
			t.Errorf("%d: results with an error", i)
		}
	}
	for _, p := range append(problems(), problem{Numbers: 1, Sets: one(hitting.MaxSets)}, groups([2]int{20, 1}), problem{Numbers: 20, Sets: [][]int{{19}, {0, 19}}}) {
		if e := hitting.Check(p); e != api.OK {
			t.Errorf("Check(%v) = %d", p, e)
		}
	}
}

// P9.1 and P9.2: the errors of lists come after those of problems, for their numbers in order.
func TestLists(t *testing.T) {
	p := problem{Numbers: 3, Sets: [][]int{{0, 1}}}
	for _, c := range []struct {
		l []int
		e api.Errno
	}{
		{[]int{3}, api.ErrRange}, {[]int{-1}, api.ErrRange}, {[]int{0, math.MaxInt}, api.ErrRange}, {[]int{0, math.MinInt}, api.ErrRange},
		{[]int{0, 3, 3}, api.ErrRange}, {[]int{1, 1}, api.ErrOrder}, {[]int{1, 0, 3}, api.ErrOrder}, {[]int{2, 1}, api.ErrOrder}, {[]int{0, 1, 2, 2}, api.ErrOrder},
	} {
		first, all, e := hitting.Hits(p, c.l)
		reduced, f := hitting.Reduce(p, c.l)
		if e != c.e || f != c.e || first != 0 || all || reduced != nil {
			t.Errorf("%v: Hits = %d, %t, %d, Reduce = %v, %d, not %d", c.l, first, all, e, reduced, f, c.e)
		}
	}
}

// P9.1
func TestHits(t *testing.T) {
	for _, p := range problems() {
		for _, l := range subsets(p.Numbers) {
			want := missed(p, l)
			first, all, e := hitting.Hits(p, l)
			if e != api.OK || all != (want < 0) || first != max(want, 0) {
				t.Errorf("Hits(%v, %v) = %d, %t, %d, not %d", p, l, first, all, e, want)
			}
		}
	}
}

// P9.2 and P9.6: what Reduce returns is irreducible, and a part of the list.
func TestReduce(t *testing.T) {
	for _, p := range problems() {
		for _, l := range subsets(p.Numbers) {
			got, e := hitting.Reduce(p, l)
			if missed(p, l) >= 0 {
				if got != nil || e != api.ErrNone {
					t.Errorf("Reduce(%v, %v) = %v, %d", p, l, got, e)
				}
				continue
			}
			want := slices.Clone(l)
			for _, number := range l {
				if less := without(want, slices.Index(want, number)); missed(p, less) < 0 {
					want = less
				}
			}
			if e != api.OK || !slices.Equal(got, want) || !irreducible(p, got) {
				t.Errorf("Reduce(%v, %v) = %v, %d, not %v", p, l, got, e, want)
			}
		}
	}
	if l, e := hitting.Reduce(problem{Numbers: 3, Sets: [][]int{{0, 1}, {1, 2}, {0, 2}}}, []int{0, 1, 2}); e != api.OK || !slices.Equal(l, []int{1, 2}) {
		t.Errorf("Reduce of the example = %v, %d", l, e)
	}
}

// P9.3 and P9.6: Least is the first of All, and irreducible.
func TestAll(t *testing.T) {
	for _, p := range problems() {
		var want [][]int
		count := 0
		for _, l := range subsets(p.Numbers) {
			if irreducible(p, l) {
				want = append(want, l)
			}
			if missed(p, l) < 0 {
				count++
			}
		}
		all, e := hitting.All(p, hitting.MaxResults)
		if e != api.OK || !slices.EqualFunc(all, want, slices.Equal) {
			t.Errorf("All(%v) = %v, %d, not %v", p, all, e, want)
		}
		if least, e := hitting.Least(p); e != api.OK || !slices.Equal(least, want[0]) {
			t.Errorf("Least(%v) = %v, %d, not %v", p, least, e, want[0])
		}
		if n, e := hitting.Count(p); e != api.OK || string(n) != strconv.Itoa(count) {
			t.Errorf("Count(%v) = %s, %d, not %d", p, n, e, count)
		}
		if all, e := hitting.All(p, len(want)); e != api.OK || len(all) != len(want) {
			t.Errorf("All(%v, %d) = %v, %d", p, len(want), all, e)
		}
		if len(want) > 1 {
			if all, e := hitting.All(p, len(want)-1); e != api.ErrLimit || all != nil {
				t.Errorf("All(%v, %d) = %v, %d", p, len(want)-1, all, e)
			}
		}
	}
}

// P9.3: the limits of All.
func TestAllLimit(t *testing.T) {
	pairs := groups([2]int{2, 2}, [2]int{2, 2}, [2]int{2, 2}, [2]int{2, 2}, [2]int{2, 2}, [2]int{2, 2}, [2]int{2, 2}, [2]int{2, 2}, [2]int{2, 2}, [2]int{2, 2})
	for _, limit := range []int{0, -1, math.MinInt, hitting.MaxResults + 1, math.MaxInt} {
		if l, e := hitting.All(pairs, limit); l != nil || e != api.ErrRange {
			t.Errorf("All with the limit %d = %d lists, %d", limit, len(l), e)
		}
	}
	if l, e := hitting.All(pairs, hitting.MaxResults); l != nil || e != api.ErrLimit { // 1024 lists
		t.Errorf("All = %d lists, %d", len(l), e)
	}
	less := groups([2]int{4, 4}, [2]int{3, 3}, [2]int{3, 3}, [2]int{3, 3}, [2]int{3, 3}, [2]int{3, 3})
	l, e := hitting.All(less, 972)
	if e != api.OK || len(l) != 972 || !slices.Equal(l[0], []int{0, 4, 7, 10, 13, 16}) || !slices.Equal(l[971], []int{3, 6, 9, 12, 15, 18}) || !slices.IsSortedFunc(l, slices.Compare) {
		t.Errorf("All = %d lists, %d", len(l), e)
	}
}

// longestDisjoint returns the first one of the longest lists of disjoint sets behind a place.
func longestDisjoint(p problem, from int, taken []int) []int {
	var best []int
	for i := from; i < len(p.Sets); i++ {
		if meet(p.Sets[i], taken) {
			continue
		}
		if l := longestDisjoint(p, i+1, slices.Concat(taken, p.Sets[i])); len(l)+1 > len(best) {
			best = append([]int{i}, l...)
		}
	}
	return best
}

// P9.5 and P9.6: a list that hits all sets has at least as many numbers as there are disjoint sets.
func TestDisjoint(t *testing.T) {
	r := rand.New(rand.NewSource(10))
	l := problems()
	for i := range 60 {
		l = append(l, random(r, 9+i%12, 4+r.Intn(25), 1, 4))
	}
	l = append(l, groups([2]int{9, 2}, [2]int{7, 3}, [2]int{4, 2}), groups([2]int{6, 3}, [2]int{6, 4}, [2]int{8, 5}))
	for _, p := range l {
		got, e := hitting.Disjoint(p)
		if want := longestDisjoint(p, 0, nil); e != api.OK || !slices.Equal(got, want) {
			t.Errorf("Disjoint(%v) = %v, %d, not %v", p, got, e, want)
		}
		if least, _ := hitting.Least(p); len(least) < len(got) {
			t.Errorf("%v: Least = %v, Disjoint = %v", p, least, got)
		}
	}
	// Each number is a set, but the first one, which begins with a longer one.
	p := problem{Numbers: 20, Sets: [][]int{{0, 19}}}
	for number := range 20 {
		p.Sets = append(p.Sets, []int{number})
	}
	if l, e := hitting.Disjoint(p); e != api.OK || len(l) != 20 || l[0] != 1 || l[19] != 20 {
		t.Errorf("Disjoint of single numbers = %v, %d", l, e)
	}
}

// P9.3, P9.5 and P9.6: problems with all numbers.
func TestGreatest(t *testing.T) {
	for _, c := range []struct {
		p               problem
		least, disjoint int
		count           string
	}{
		{groups(), 0, 0, "1048576"},
		{groups([2]int{20, 20}), 1, 1, "1048575"},
		{groups([2]int{1, 1}, [2]int{19, 18}), 3, 2, "524268"},
		{groups([2]int{9, 2}, [2]int{11, 2}), 18, 9, "120"},
		{groups([2]int{7, 3}, [2]int{7, 3}, [2]int{6, 3}), 14, 6, "18502"},
		{groups([2]int{2, 2}, [2]int{2, 2}, [2]int{2, 2}, [2]int{14, 2}), 16, 10, "405"},
	} {
		least, e := hitting.Least(c.p)
		disjoint, f := hitting.Disjoint(c.p)
		count, g := hitting.Count(c.p)
		if e != api.OK || f != api.OK || g != api.OK || len(least) != c.least || len(disjoint) != c.disjoint || string(count) != c.count {
			t.Errorf("%v: Least = %v, %d, Disjoint = %v, %d, Count = %s, %d", c.p, least, e, disjoint, f, count, g)
		}
		if !irreducible(c.p, least) {
			t.Errorf("Least(%v) = %v", c.p, least)
		}
	}
}

// P9.6: a further set does not make Least shorter, nor Count greater, and lists that contain one that hits all sets hit all of them.
func TestFurther(t *testing.T) {
	number := func(n api.Int, e api.Errno) int {
		i, err := strconv.Atoi(string(n))
		if e != api.OK || err != nil {
			t.Errorf("Count = %s, %d", n, e)
		}
		return i
	}
	for _, p := range problems() {
		if len(p.Sets) == 0 {
			if l, e := hitting.Least(p); len(l) != 0 || e != api.OK || number(hitting.Count(p)) != 1<<p.Numbers {
				t.Errorf("%v without sets: Least = %v, %d", p, l, e)
			}
			continue
		}
		less := problem{p.Numbers, p.Sets[:len(p.Sets)-1]}
		a, _ := hitting.Least(less)
		b, _ := hitting.Least(p)
		if len(b) < len(a) || number(hitting.Count(p)) > number(hitting.Count(less)) {
			t.Errorf("%v: Least = %v, without the last set %v", p, b, a)
		}
		for _, l := range subsets(p.Numbers) {
			if more := slices.Compact(slices.Sorted(slices.Values(slices.Concat(l, b)))); len(l) > 0 {
				if first, all, e := hitting.Hits(p, more); first != 0 || !all || e != api.OK {
					t.Errorf("Hits(%v, %v) = %d, %t, %d", p, more, first, all, e)
				}
			}
		}
	}
}

// P9.1 to P9.5: arguments stay as they are, and results are new.
func TestNew(t *testing.T) {
	p := problem{Numbers: 6, Sets: [][]int{{0, 1}, {1, 2}, {0, 2}, {3, 4, 5}}}
	kept := problem{Numbers: 6, Sets: [][]int{{0, 1}, {1, 2}, {0, 2}, {3, 4, 5}}}
	l := []int{0, 1, 2, 3, 4}
	call := func() []any {
		first, all, _ := hitting.Hits(p, l)
		reduced, _ := hitting.Reduce(p, l)
		least, _ := hitting.Least(p)
		lists, _ := hitting.All(p, 100)
		count, _ := hitting.Count(p)
		tree, _ := hitting.Prove(p, 3)
		disjoint, _ := hitting.Disjoint(p)
		return []any{first, all, reduced, least, lists, count, tree, disjoint}
	}
	got, again := call(), call()
	each := func(change func(l []int)) {
		for _, result := range got {
			switch r := result.(type) {
			case []int:
				change(r)
			case [][]int:
				for i := range r {
					change(r[i])
				}
			case []api.Node:
				for i := range r {
					change(r[i].Weights)
				}
			}
		}
	}
	each(func(l []int) { _ = append(l, 77) })
	if !reflect.DeepEqual(got, again) {
		t.Errorf("the results became %v, not %v", got, again)
	}
	each(func(l []int) { clear(l) })
	if !reflect.DeepEqual(p, kept) || !slices.Equal(l, []int{0, 1, 2, 3, 4}) {
		t.Errorf("the arguments became %v, %v", p, l)
	}
	if last := call(); !reflect.DeepEqual(again, last) {
		t.Errorf("the results became %v, not %v", last, again)
	}
}
