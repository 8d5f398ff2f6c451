package covering_test

import (
	"math"
	"math/rand"
	"slices"
	"testing"

	"bombarde/api"
	"bombarde/covering"
)

// proves reports whether a list of nodes is a proof for a cost, as the chapter defines it.
func proves(p problem, least int, proof []api.Node) bool {
	if len(proof) == 0 {
		return false
	}
	parents := make([]int, len(proof))
	var walk func(at int, taken, out []int) bool
	walk = func(at int, taken, out []int) bool {
		n := proof[at]
		switch n.Pick {
		case -1:
			return bounds(p, least, n, taken, out)
		case -2:
			return n.Bound >= 0 && n.Bound < p.Elements && slices.Contains(missing(p, others(p, out)), n.Bound)
		}
		for _, next := range []int{n.Yes, n.No} {
			if next <= at || next >= len(proof) {
				return false
			}
			parents[next]++
			if parents[next] > 1 {
				return false
			}
		}
		if n.Pick < 0 || n.Pick >= len(p.Sets) || slices.Contains(taken, n.Pick) || slices.Contains(out, n.Pick) {
			return false
		}
		with := func(l []int) []int { return append(slices.Clone(l), n.Pick) }
		yes := walk(n.Yes, with(taken), out)
		return walk(n.No, taken, with(out)) && yes
	}
	return walk(0, nil, nil) && !slices.Contains(parents[1:], 0)
}

// others returns the sets that are not in a list.
func others(p problem, out []int) []int {
	return slices.DeleteFunc(everything(p), func(i int) bool { return slices.Contains(out, i) })
}

// bounds reports whether a bound is right.
func bounds(p problem, least int, n api.Node, taken, out []int) bool {
	if len(n.Weights) != p.Elements {
		return false
	}
	bound := cost(p, taken)
	lost := missing(p, taken)
	for element, weight := range n.Weights {
		if weight < 0 || weight > covering.MaxCost || weight > 0 && !slices.Contains(lost, element) {
			return false
		}
		bound += weight
	}
	free := problem{Elements: p.Elements}
	for _, i := range others(p, slices.Concat(taken, out)) {
		free.Sets = append(free.Sets, p.Sets[i])
	}
	return packing(free, n.Weights) && bound == n.Bound && bound >= least
}

// P10.5 to P10.7
func TestSolve(t *testing.T) {
	found := 0
	for _, p := range problems() {
		every, least := covers(p)
		var want [][]int
		for _, sets := range every {
			if cost(p, sets) == least {
				want = append(want, sets)
			}
		}
		best, e := covering.Solve(p)
		all, f := covering.All(p)
		if len(want) == 0 {
			if e != api.ErrNone || f != api.ErrNone || !zero(best) || all != nil {
				t.Errorf("%v: Solve = %v, %d, All = %v, %d", p, best, e, all, f)
			}
			continue
		}
		found++
		if e != api.OK || !slices.Equal(best.Sets, want[0]) || best.Cost != least || !proves(p, least, best.Proof) {
			t.Errorf("Solve(%v) = %v, %d, not %v with %d", p, best, e, want[0], least)
		}
		if f != api.OK || !slices.EqualFunc(all, want, slices.Equal) {
			t.Errorf("All(%v) = %v, %d, not %v", p, all, f, want)
		}
		for _, sets := range every {
			c := cover{sets, cost(p, sets), best.Proof}
			want := api.OK
			if c.Cost > least {
				want = api.ErrCertificate
			}
			if e := covering.Verify(p, c); e != want {
				t.Errorf("Verify(%v, %v) = %d, not %d", p, c, e, want)
			}
		}
	}
	if found < 100 {
		t.Errorf("%d problems have covers", found)
	}
}

// P10.5: all least covers are at most MaxList.
func TestAllLimit(t *testing.T) {
	// Elements with some sets that are alike.
	alike := func(counts ...int) problem {
		p := problem{Elements: len(counts)}
		for element, count := range counts {
			p.Sets = append(p.Sets, slices.Repeat([]set{{[]int{element}, 9}}, count)...)
		}
		return p
	}
	l, e := covering.All(alike(5, 5, 2, 2, 2)) // 200 least covers, 16 sets
	if e != api.OK || len(l) != covering.MaxList || !slices.IsSortedFunc(l, slices.Compare) || !slices.Equal(l[0], []int{0, 5, 10, 12, 14}) || !slices.Equal(l[199], []int{4, 9, 11, 13, 15}) {
		t.Errorf("All = %d lists, %d", len(l), e)
	}
	for _, p := range []problem{alike(3, 3, 3, 3, 3), alike(2, 2, 2, 2, 2, 2, 2, 2), alike(slices.Repeat([]int{2}, 20)...)} {
		if l, e := covering.All(p); l != nil || e != api.ErrLimit {
			t.Errorf("All(%v) = %d lists, %d", p, len(l), e)
		}
		best, e := covering.Solve(p)
		if want := greedy(p); e != api.OK || !slices.Equal(best.Sets, want) || covering.Verify(p, best) != api.OK {
			t.Errorf("Solve(%v) = %v, %d", p, best, e)
		}
	}
}

// parts returns all lists of some numbers from 0 to n - 1.
func parts(n, size int) [][]int {
	if size == 0 {
		return [][]int{nil}
	}
	var l [][]int
	for last := size - 1; last < n; last++ {
		for _, rest := range parts(last, size-1) {
			l = append(l, append(rest, last))
		}
	}
	return l
}

// dual returns the problem whose elements are all parts of groups of sets: each group with a number of sets, and how many of them have an element.
func dual(cost func() int, groups ...[2]int) problem {
	var p problem
	for _, g := range groups {
		from := len(p.Sets)
		for range g[0] {
			p.Sets = append(p.Sets, set{Cost: cost()})
		}
		for _, holders := range parts(g[0], g[1]) {
			for _, i := range holders {
				p.Sets[from+i].Elements = append(p.Sets[from+i].Elements, p.Elements)
			}
			p.Elements++
		}
	}
	return p
}

// hard returns problems with at most 16 sets that need many nodes.
func hard(r *rand.Rand) []problem {
	var l []problem
	for _, cost := range []func() int{func() int { return 1 }, func() int { return 2 }, func() int { return 7 + r.Intn(2) }, func() int { return 1 + r.Intn(covering.MaxCost) }} {
		l = append(l,
			dual(cost, [2]int{5, 3}, [2]int{5, 3}, [2]int{6, 4}), dual(cost, [2]int{3, 2}, [2]int{6, 4}, [2]int{7, 5}), dual(cost, [2]int{3, 2}, [2]int{5, 4}, [2]int{8, 6}),
			dual(cost, [2]int{6, 3}, [2]int{5, 3}, [2]int{5, 3}), dual(cost, [2]int{8, 6}, [2]int{8, 7}), dual(cost, [2]int{3, 2}, [2]int{3, 2}, [2]int{3, 2}, [2]int{3, 2}, [2]int{3, 2}),
			dual(cost, [2]int{9, 2}), dual(cost, [2]int{16, 15}), dual(cost, [2]int{16, 1}))
	}
	for i := range 100 {
		l = append(l, random(r, covering.MaxElements, 16, 1, 4+i%12, []int{1, 2, 10, 1000, covering.MaxCost}[i%5]))
		l[len(l)-1].Sets[i%16].Elements = everything(problem{Sets: make([]set, covering.MaxElements)})
		l[len(l)-1].Sets[i%16].Cost = covering.MaxCost
	}
	return l
}

// leastOf16 returns the first least cover, found by going through all sets of sets as bits.
func leastOf16(p problem) (sets []int, total int) {
	has := make([]uint64, len(p.Sets))
	for i, s := range p.Sets {
		for _, element := range s.Elements {
			has[i] |= 1 << element
		}
	}
	covered, costs := make([]uint64, 1<<len(p.Sets)), make([]int, 1<<len(p.Sets))
	best, total := 0, math.MaxInt
	for m := 0; m < 1<<len(p.Sets); m++ {
		for i := range p.Sets {
			if m>>i&1 == 1 {
				rest := m &^ (1 << i)
				covered[m], costs[m] = covered[rest]|has[i], costs[rest]+p.Sets[i].Cost
				break
			}
		}
		if covered[m] != 1<<p.Elements-1 || costs[m] > total {
			continue
		}
		// Of two least covers, the first one has the least set that only one of them has.
		if differing := m ^ best; costs[m] < total || m&(differing&-differing) != 0 {
			best, total = m, costs[m]
		}
	}
	for i := range p.Sets {
		if best>>i&1 == 1 {
			sets = append(sets, i)
		}
	}
	return sets, total
}

// P10.5: problems with at most 16 sets have no limit but that of All.
func TestHard(t *testing.T) {
	for i, p := range hard(rand.New(rand.NewSource(15))) {
		sets, least := leastOf16(p)
		best, e := covering.Solve(p)
		if e != api.OK || !slices.Equal(best.Sets, sets) || best.Cost != least || len(best.Proof) > covering.MaxNodes/5 || !proves(p, least, best.Proof) {
			t.Errorf("%d: Solve = %v with %d, %d nodes, %d, not %v with %d", i, best.Sets, best.Cost, len(best.Proof), e, sets, least)
		}
		if e := covering.Verify(p, best); e != api.OK {
			t.Errorf("%d: Verify = %d", i, e)
		}
		all, e := covering.All(p)
		if e == api.OK && !slices.Equal(all[0], best.Sets) || e != api.OK && e != api.ErrLimit {
			t.Errorf("%d: All = %d lists, %d", i, len(all), e)
		}
	}
}

// P1, P10.5 and P10.7: problems with up to 40 sets.
func TestGreatest(t *testing.T) {
	r := rand.New(rand.NewSource(16))
	one := func() int { return 1 }
	triangles := slices.Repeat([][2]int{{3, 2}}, 13)
	l := []problem{dual(one, triangles...), dual(one, slices.Repeat([][2]int{{5, 3}}, 4)...), dual(one, [2]int{40, 1}), dual(func() int { return 1 + r.Intn(covering.MaxCost) }, triangles...)}
	for i := range 60 {
		l = append(l, random(r, covering.MaxElements, covering.MaxSets, 2, 5+i%20, []int{1, 3, 100, covering.MaxCost}[i%4]))
	}
	solved := 0
	for i, p := range l {
		best, e := covering.Solve(p)
		if e != api.OK {
			if (e == api.ErrNone) != (len(missing(p, everything(p))) > 0) || !zero(best) {
				t.Errorf("%d: Solve = %v, %d", i, best, e)
			}
			continue
		}
		solved++
		if e := covering.Verify(p, best); e != api.OK || !proves(p, best.Cost, best.Proof) || cost(p, best.Sets) != best.Cost {
			t.Errorf("%d: Verify = %d", i, e)
		}
		if all, e := covering.All(p); e == api.OK && (!slices.Equal(all[0], best.Sets) || !slices.IsSortedFunc(all, slices.Compare)) {
			t.Errorf("%d: All = %v, %d", i, all, e)
		}
		// No packing, and no other cover, has less.
		if sets, e := covering.Greedy(p); e != api.OK || cost(p, sets) < best.Cost {
			t.Errorf("%d: Greedy = %v, %d", i, sets, e)
		}
	}
	if solved < 50 {
		t.Errorf("%d problems are solved", solved)
	}
	// The nodes that groups need are multiplied: the limit is permitted.
	for _, p := range []problem{dual(one, slices.Repeat([][2]int{{4, 3}}, 10)...), dual(one, slices.Repeat([][2]int{{5, 4}}, 8)...)} {
		best, e := covering.Solve(p)
		if e == api.OK && covering.Verify(p, best) != api.OK || e != api.OK && (e != api.ErrLimit || !zero(best)) {
			t.Errorf("Solve(%v) = %v, %d", p, best, e)
		}
		if all, e := covering.All(p); all != nil || e != api.ErrLimit {
			t.Errorf("All(%v) = %d lists, %d", p, len(all), e)
		}
	}
}

// P10.6: proofs of the first example, whose least cover is the set 3.
func TestVerify(t *testing.T) {
	pick := func(set, yes, no int) api.Node { return api.Node{Pick: set, Yes: yes, No: no} }
	bound := func(least int, weights ...int) api.Node { return api.Node{Pick: -1, Bound: least, Weights: weights} }
	gap := func(element int) api.Node { return api.Node{Pick: -2, Bound: element} }
	good := []api.Node{pick(3, 1, 2), bound(5, 0, 0, 0), pick(0, 3, 4), bound(6, 0, 0, 3), pick(1, 5, 6), bound(6, 3, 0, 0), gap(1)}
	change := func(at int, n api.Node) []api.Node {
		l := slices.Clone(good)
		l[at] = n
		return l
	}
	longer := []api.Node{pick(3, 1, 2), bound(5, 0, 0, 0), pick(0, 3, 4), pick(1, 7, 5), pick(1, 8, 9), pick(2, 10, 6), gap(2), bound(6, 0, 0, 0), bound(6, 3, 0, 0), gap(1), bound(6, 0, 0, 0)}
	shared := slices.Clone(longer[:10])
	shared[5] = pick(2, 7, 6)
	for i, c := range []struct {
		proof []api.Node
		e     api.Errno
	}{
		{good, api.OK},
		{change(1, api.Node{Pick: -1, Yes: 3, No: -9, Bound: 5, Weights: []int{0, 0, 0}}), api.OK}, // Yes and No mean nothing
		{change(6, api.Node{Pick: -2, Yes: 3, No: -9, Bound: 1, Weights: []int{7}}), api.OK},
		{change(0, api.Node{Pick: 3, Yes: 1, No: 2, Bound: -4, Weights: []int{-1}}), api.OK},
		{change(3, bound(5, 0, 0, 2)), api.OK},
		{change(6, bound(6, 3, 3, 0)), api.OK}, // the element 1 is in sets that are left out only
		{change(6, bound(covering.MaxCost+3, 0, covering.MaxCost, 3)), api.OK},
		{longer, api.OK},
		{shared, api.ErrCertificate}, // the node 7 is that of two nodes
		{append(change(6, pick(2, 7, 7)), gap(1)), api.ErrCertificate},
		{append(change(6, pick(2, 7, 8)), gap(1), gap(1)), api.OK},
		{nil, api.ErrCertificate},
		{[]api.Node{bound(3, 1, 1, 1)}, api.ErrCertificate},      // less than the cost
		{[]api.Node{bound(5, 1, 1, 1)}, api.ErrCertificate},      // not the sum
		{[]api.Node{bound(5, 2, 1, 2)}, api.ErrCertificate},      // no packing
		{[]api.Node{bound(5, 5, 0, 0)}, api.ErrCertificate},      // no packing
		{[]api.Node{{}}, api.ErrCertificate},                     // its own Yes and No
		{[]api.Node{gap(0)}, api.ErrCertificate},                 // the element is in sets
		{[]api.Node{{Pick: -3, Bound: 5}}, api.ErrCertificate},   // no kind
		{append(slices.Clone(good), gap(1)), api.ErrCertificate}, // not reached
		{good[:6], api.ErrCertificate},
		{change(0, pick(3, 1, 1)), api.ErrCertificate},
		{change(0, pick(3, 2, 1)), api.ErrCertificate}, // the wrong way
		{change(0, pick(4, 1, 2)), api.ErrCertificate},
		{change(0, pick(math.MaxInt, 1, 2)), api.ErrCertificate},
		{change(0, pick(3, 0, 2)), api.ErrCertificate},
		{change(0, pick(3, 1, 7)), api.ErrCertificate},
		{change(0, pick(3, math.MinInt, 2)), api.ErrCertificate},
		// The set 3 is picked where it is left out, and where it is taken.
		{[]api.Node{pick(3, 1, 2), bound(5, 0, 0, 0), pick(3, 3, 4), bound(5, 0, 0, 0), pick(0, 5, 6), bound(6, 0, 0, 3), pick(1, 7, 8), bound(6, 3, 0, 0), gap(1)}, api.ErrCertificate},
		{[]api.Node{pick(3, 1, 2), pick(3, 7, 8), pick(0, 3, 4), bound(6, 0, 0, 3), pick(1, 5, 6), bound(6, 3, 0, 0), gap(1), bound(5, 0, 0, 0), bound(5, 0, 0, 0)}, api.ErrCertificate},
		{change(2, pick(0, 1, 4)), api.ErrCertificate}, // back
		{change(2, pick(0, 3, 3)), api.ErrCertificate},
		{change(4, pick(1, 5, 3)), api.ErrCertificate},     // of two nodes
		{change(1, bound(6, 1, 0, 0)), api.ErrCertificate}, // a weight of an element of a taken set
		{change(1, bound(4, 0, 0, 0)), api.ErrCertificate},
		{change(1, bound(5, 0, 0)), api.ErrCertificate},
		{change(1, bound(5, 0, 0, 0, 0)), api.ErrCertificate},
		{change(1, bound(5, 0, 1, -1)), api.ErrCertificate},
		{change(3, bound(7, 0, 0, 4)), api.ErrCertificate}, // more than the set 1 costs
		{change(3, bound(4, 0, 0, 1)), api.ErrCertificate}, // less than the cost
		{change(6, gap(0)), api.ErrCertificate},
		{change(6, gap(2)), api.ErrCertificate},
		{change(6, gap(3)), api.ErrCertificate},
		{change(6, gap(-1)), api.ErrCertificate},
		{change(6, bound(covering.MaxCost+4, 0, covering.MaxCost+1, 3)), api.ErrCertificate},
	} {
		if e := covering.Verify(example(), cover{[]int{3}, 5, c.proof}); e != c.e || (e == api.OK) != proves(example(), 5, c.proof) {
			t.Errorf("%d: Verify = %d, not %d", i, e, c.e)
		}
	}
}

// P10.6: the order of the errors.
func TestVerifyOrder(t *testing.T) {
	least, e := covering.Solve(example())
	many := make([]api.Node, covering.MaxNodes+1)
	for i, c := range []struct {
		c cover
		e api.Errno
	}{
		{least, e},
		{cover{[]int{0}, 9, many}, api.ErrForm},
		{cover{nil, 9, many}, api.ErrForm},
		{cover{[]int{3}, 4, many}, api.ErrCertificate},
		{cover{[]int{3}, 6, many}, api.ErrCertificate},
		{cover{[]int{3}, math.MinInt, many}, api.ErrCertificate},
		{cover{[]int{3}, 6, least.Proof}, api.ErrCertificate},
		{cover{[]int{3}, 5, many}, api.ErrLimit},
		{cover{[]int{3}, 5, many[1:]}, api.ErrCertificate},
		{cover{[]int{0, 1}, 6, many}, api.ErrLimit},
		{cover{[]int{0, 1}, 6, least.Proof}, api.ErrCertificate}, // its leaf with the set 3 has the bound 5
		{cover{[]int{0, 1}, 5, least.Proof}, api.ErrCertificate},
	} {
		if e := covering.Verify(example(), c.c); e != c.e {
			t.Errorf("%d: Verify = %d, not %d", i, e, c.e)
		}
	}
	none := cover{nil, 0, []api.Node{{Pick: -1}}}
	if e := covering.Verify(problem{}, none); e != api.OK {
		t.Errorf("Verify of nothing = %d", e)
	}
	if best, e := covering.Solve(problem{}); e != api.OK || len(best.Sets) != 0 || best.Cost != 0 || covering.Verify(problem{}, best) != api.OK {
		t.Errorf("Solve of nothing = %v, %d", best, e)
	}
}

// P10.6: a proof can have MaxNodes nodes.
func TestVerifyMany(t *testing.T) {
	// A full tree of the first 13 sets has 16383 nodes; as many sets as it takes are tried below some of its leaves.
	p := problem{Elements: 1}
	for range 20 {
		p.Sets = append(p.Sets, set{[]int{0}, 1})
	}
	var proof []api.Node
	var grow func(set, taken int) int
	grow = func(set, taken int) int {
		at := len(proof)
		proof = append(proof, api.Node{})
		node := api.Node{Pick: -1, Bound: max(taken, 1), Weights: []int{max(1-taken, 0)}}
		if set < 13 {
			node = api.Node{Pick: set, Yes: grow(set+1, taken+1), No: grow(set+1, taken)}
		}
		proof[at] = node
		return at
	}
	grow(0, 0)
	for at := 0; len(proof)+2 <= covering.MaxNodes; at++ {
		if n := proof[at]; n.Pick == -1 && n.Weights[0] == 0 {
			proof[at] = api.Node{Pick: 13, Yes: len(proof), No: len(proof) + 1}
			proof = append(proof, api.Node{Pick: -1, Bound: n.Bound + 1, Weights: []int{0}}, n)
		}
	}
	if e := covering.Verify(p, cover{[]int{0}, 1, proof}); e != api.OK || len(proof) != covering.MaxNodes-1 {
		t.Errorf("Verify of %d nodes = %d", len(proof), e)
	}
	proof = append(proof, proof[len(proof)-2:]...)
	if e := covering.Verify(p, cover{[]int{0}, 1, proof}); e != api.ErrLimit {
		t.Errorf("Verify of %d nodes = %d", len(proof), e)
	}
}

// spoil changes a node of a proof.
func spoil(r *rand.Rand, proof []api.Node) []api.Node {
	proof = slices.Clone(proof)
	n := &proof[r.Intn(len(proof))]
	number := r.Intn(len(proof)+5) - 3
	switch r.Intn(6) {
	case 0:
		n.Pick = number
	case 1:
		n.Yes = number
	case 2:
		n.No = number
	case 3:
		n.Bound += r.Intn(5) - 2
	case 4, 5:
		if len(n.Weights) > 0 {
			n.Weights = slices.Clone(n.Weights)
			more := r.Intn(5) - 2
			n.Weights[r.Intn(len(n.Weights))] += more
			n.Bound += more
		}
	}
	return proof
}

// P10.6 and P10.7: Verify accepts what the definition does, also of proofs that were changed, and no cover that costs more than another one.
func TestSpoiled(t *testing.T) {
	r := rand.New(rand.NewSource(17))
	accepted, refused := 0, 0
	for _, p := range problems() {
		best, e := covering.Solve(p)
		if e != api.OK {
			continue
		}
		every, _ := covers(p)
		for range 60 {
			c := cover{Sets: every[r.Intn(len(every))], Proof: spoil(r, best.Proof)}
			if r.Intn(2) == 0 {
				c.Sets = best.Sets
			}
			c.Cost = cost(p, c.Sets)
			e := covering.Verify(p, c)
			if want := proves(p, c.Cost, c.Proof); (e == api.OK) != want || e != api.OK && e != api.ErrCertificate || e == api.OK && c.Cost > best.Cost {
				t.Fatalf("Verify(%v, %v) = %d", p, c, e)
			}
			if e == api.OK {
				accepted++
			} else {
				refused++
			}
		}
	}
	if accepted < 500 || refused < 500 {
		t.Errorf("%d proofs are accepted, %d refused", accepted, refused)
	}
}
