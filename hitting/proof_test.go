package hitting_test

import (
	"math"
	"math/rand"
	"slices"
	"testing"

	"bombarde/api"
	"bombarde/hitting"
)

// proves reports whether a tree is a proof tree for a size, as the chapter defines it.
func proves(p problem, size int, tree []api.Node) bool {
	parents := map[int]int{}
	var walk func(at int, taken, out []int) bool
	walk = func(at int, taken, out []int) bool {
		n := tree[at]
		if n.Yes == 0 && n.No == 0 {
			return closes(p, size, n.Weights, taken, out)
		}
		for _, next := range []int{n.Yes, n.No} {
			if next <= at || next >= len(tree) {
				return false
			}
			parents[next]++
			if parents[next] > 1 {
				return false
			}
		}
		if n.Pick < 0 || n.Pick >= p.Numbers || slices.Contains(taken, n.Pick) || slices.Contains(out, n.Pick) {
			return false
		}
		with := func(l []int) []int { return append(slices.Clone(l), n.Pick) }
		yes := walk(n.Yes, with(taken), out)
		return walk(n.No, taken, with(out)) && yes
	}
	return walk(0, nil, nil)
}

// closes reports whether a leaf with some weights is right.
func closes(p problem, size int, weights, taken, out []int) bool {
	var rests [][]int
	seen := map[int]bool{}
	for _, index := range weights {
		if index < 0 || index >= len(p.Sets) || seen[index] || meet(p.Sets[index], taken) {
			return false
		}
		seen[index] = true
		rest := slices.DeleteFunc(slices.Clone(p.Sets[index]), func(number int) bool { return slices.Contains(out, number) })
		for _, other := range rests {
			if meet(other, rest) {
				return false
			}
		}
		rests = append(rests, rest)
	}
	return len(rests)+len(taken) >= size || len(rests) == 1 && len(rests[0]) == 0
}

// P9.4 and P9.6: there is a proof tree exactly for sizes up to the length of Least.
func TestProve(t *testing.T) {
	for _, p := range problems() {
		least, _ := hitting.Least(p)
		for size := range p.Numbers + 1 {
			tree, e := hitting.Prove(p, size)
			if size > len(least) {
				if e != api.ErrNone || tree != nil {
					t.Errorf("Prove(%v, %d) = %v, %d", p, size, tree, e)
				}
				continue
			}
			if e != api.OK || len(tree) > hitting.MaxNodes || !proves(p, size, tree) {
				t.Errorf("Prove(%v, %d) = %v, %d", p, size, tree, e)
			}
			if e := hitting.Verify(p, size, tree); e != api.OK {
				t.Errorf("Verify(%v, %d, %v) = %d", p, size, tree, e)
			}
		}
	}
}

// P9.4: the errors of a size, and of the number of nodes.
func TestSize(t *testing.T) {
	p := problem{Numbers: 3, Sets: [][]int{{0, 1}, {1, 2}, {0, 2}}}
	many := make([]api.Node, hitting.MaxNodes+1)
	for _, size := range []int{-1, 4, math.MinInt, math.MaxInt} {
		if tree, e := hitting.Prove(p, size); tree != nil || e != api.ErrRange {
			t.Errorf("Prove(%d) = %v, %d", size, tree, e)
		}
		for _, tree := range [][]api.Node{nil, {{}}, many} {
			if e := hitting.Verify(p, size, tree); e != api.ErrRange {
				t.Errorf("Verify(%d) of %d nodes = %d", size, len(tree), e)
			}
		}
	}
	if tree, e := hitting.Prove(p, 3); tree != nil || e != api.ErrNone {
		t.Errorf("Prove(3) = %v, %d", tree, e)
	}
	for size := range 4 {
		if e := hitting.Verify(p, size, many); e != api.ErrLimit {
			t.Errorf("Verify(%d) of too many nodes = %d", size, e)
		}
		if e := hitting.Verify(p, size, nil); e != api.ErrEmpty {
			t.Errorf("Verify(%d) of no nodes = %d", size, e)
		}
	}
	// Nodes that are not reached do not count, apart from their number.
	many = slices.Repeat([]api.Node{{Pick: 99, Yes: -7, No: 3, Bound: 5, Weights: []int{8}}}, hitting.MaxNodes)
	many[0] = api.Node{Weights: []int{1}}
	if e := hitting.Verify(p, 1, many); e != api.OK {
		t.Errorf("Verify of MaxNodes nodes = %d", e)
	}
	if e := hitting.Verify(p, 2, many); e != api.ErrCertificate {
		t.Errorf("Verify of MaxNodes nodes for 2 = %d", e)
	}
	if tree, e := hitting.Prove(problem{}, 0); e != api.OK || hitting.Verify(problem{}, 0, tree) != api.OK {
		t.Errorf("Prove of nothing = %v, %d", tree, e)
	}
}

// P9.4: trees for the first example, and for two single numbers.
func TestVerify(t *testing.T) {
	p := problem{Numbers: 3, Sets: [][]int{{0, 1}, {1, 2}, {0, 2}}}
	inner := api.Node{Pick: 0, Yes: 1, No: 2}
	leaf := func(weights ...int) api.Node { return api.Node{Weights: weights} }
	for i, c := range []struct {
		size int
		tree []api.Node
		e    api.Errno
	}{
		{2, []api.Node{inner, leaf(1), leaf(0, 2)}, api.OK},
		{2, []api.Node{inner, leaf(1), leaf(2, 0)}, api.OK},
		{2, []api.Node{{Pick: 0, Yes: 2, No: 1}, leaf(0, 2), leaf(1)}, api.OK},
		{2, []api.Node{{Pick: 0, Yes: 3, No: 1, Bound: -4, Weights: []int{7}}, {Pick: 77, Bound: 5, Weights: []int{0, 2}}, {Yes: -5}, leaf(1)}, api.OK},
		{1, []api.Node{leaf(0)}, api.OK},
		{0, []api.Node{leaf()}, api.OK},
		{0, []api.Node{leaf(2)}, api.OK},
		{0, []api.Node{inner, leaf(), leaf(1)}, api.OK},
		{3, []api.Node{inner, leaf(1), leaf(0, 2)}, api.ErrCertificate},
		{2, []api.Node{leaf(0)}, api.ErrCertificate},
		{2, []api.Node{leaf(0, 1)}, api.ErrCertificate},        // a number in common
		{2, []api.Node{leaf(0, 0)}, api.ErrCertificate},        // one set twice
		{1, []api.Node{leaf(3)}, api.ErrCertificate},           // no such set
		{1, []api.Node{leaf(-1)}, api.ErrCertificate},          // no such set
		{0, []api.Node{leaf(math.MinInt)}, api.ErrCertificate}, // no such set
		{0, []api.Node{leaf(0, 0)}, api.ErrCertificate},
		{0, []api.Node{leaf(0, 1)}, api.ErrCertificate},
		{1, []api.Node{leaf()}, api.ErrCertificate},
		{2, []api.Node{inner, leaf(0), leaf(0, 2)}, api.ErrCertificate},                                                        // not open
		{2, []api.Node{inner, leaf(1), leaf(0)}, api.ErrCertificate},                                                           // too few
		{2, []api.Node{inner, leaf(1)}, api.ErrCertificate},                                                                    // no such node
		{2, []api.Node{{Pick: 0, Yes: 1, No: 1}, leaf(1)}, api.ErrCertificate},                                                 // one node for both
		{0, []api.Node{{Pick: 0, Yes: 1, No: 1}, leaf()}, api.ErrCertificate},                                                  // one node for both
		{2, []api.Node{{Pick: 3, Yes: 1, No: 2}, leaf(1), leaf(0, 2)}, api.ErrCertificate},                                     // no such number
		{0, []api.Node{{Pick: -1, Yes: 1, No: 2}, leaf(), leaf()}, api.ErrCertificate},                                         // no such number
		{0, []api.Node{{Pick: math.MaxInt, Yes: 1, No: 2}, leaf(), leaf()}, api.ErrCertificate},                                // no such number
		{0, []api.Node{{Pick: 0, Yes: 1}, leaf(), leaf()}, api.ErrCertificate},                                                 // one way only
		{0, []api.Node{{Pick: 0, No: 1}, leaf(), leaf()}, api.ErrCertificate},                                                  // one way only
		{0, []api.Node{{Pick: 0, Yes: -1, No: 1}, leaf(), leaf()}, api.ErrCertificate},                                         // no such node
		{0, []api.Node{{Pick: 0, Yes: 1, No: math.MaxInt}, leaf(), leaf()}, api.ErrCertificate},                                // no such node
		{0, []api.Node{inner, {Pick: 1, Yes: 1, No: 3}, leaf(), leaf()}, api.ErrCertificate},                                   // back to itself
		{0, []api.Node{inner, leaf(), {Pick: 1, Yes: 1, No: 3}, leaf()}, api.ErrCertificate},                                   // back
		{0, []api.Node{inner, {Pick: 0, Yes: 3, No: 4}, leaf(), leaf(), leaf()}, api.ErrCertificate},                           // taken already
		{0, []api.Node{inner, leaf(), {Pick: 0, Yes: 3, No: 4}, leaf(), leaf()}, api.ErrCertificate},                           // left out already
		{0, []api.Node{inner, {Pick: 1, Yes: 3, No: 4}, {Pick: 1, Yes: 4, No: 5}, leaf(), leaf(), leaf()}, api.ErrCertificate}, // a node reached twice
		{0, []api.Node{inner, {Pick: 1, Yes: 3, No: 4}, {Pick: 1, Yes: 5, No: 6}, leaf(), leaf(), leaf(), leaf()}, api.OK},
	} {
		if e := hitting.Verify(p, c.size, c.tree); e != c.e || (e == api.OK) != proves(p, c.size, c.tree) {
			t.Errorf("%d: Verify(%d, %v) = %d, not %d", i, c.size, c.tree, e, c.e)
		}
	}
	// Leaves whose set has nothing left close at any size, and alone; several of them count as others do.
	single := problem{Numbers: 3, Sets: [][]int{{0}, {1}, {0}, {0, 1, 2}}}
	out := api.Node{Pick: 0, Yes: 1, No: 2}
	for i, c := range []struct {
		yes, no api.Node
		want    api.Errno
	}{
		{leaf(1), leaf(0), api.OK},
		{leaf(1), leaf(2), api.OK},
		{leaf(1), leaf(0, 1), api.OK},
		{leaf(1), leaf(0, 2), api.OK},
		{leaf(1), leaf(1, 3), api.ErrCertificate},
		{leaf(1), leaf(0, 0), api.ErrCertificate},
		{leaf(1), leaf(1), api.ErrCertificate},
		{leaf(0), leaf(0), api.ErrCertificate},
	} {
		tree := []api.Node{out, c.yes, c.no}
		if e := hitting.Verify(single, 2, tree); e != c.want || (e == api.OK) != proves(single, 2, tree) {
			t.Errorf("%d: Verify(%v) = %d, not %d", i, tree, e, c.want)
		}
	}
	if e := hitting.Verify(single, 3, []api.Node{out, leaf(1), leaf(0)}); e != api.ErrCertificate {
		t.Errorf("Verify for 3 = %d", e)
	}
}

// spoil changes a node of a tree.
func spoil(r *rand.Rand, tree []api.Node) []api.Node {
	tree = slices.Clone(tree)
	n := &tree[r.Intn(len(tree))]
	number := r.Intn(len(tree)+4) - 2
	switch r.Intn(6) {
	case 0:
		n.Pick = number
	case 1:
		n.Yes = number
	case 2:
		n.No = number
	case 3:
		n.Weights = append(slices.Clone(n.Weights), number)
	case 4:
		if len(n.Weights) > 0 {
			n.Weights = without(n.Weights, r.Intn(len(n.Weights)))
		}
	case 5:
		if len(n.Weights) > 0 {
			n.Weights = slices.Clone(n.Weights)
			n.Weights[r.Intn(len(n.Weights))] = number
		}
	}
	return tree
}

// P9.4: Verify accepts what the definition does, also of trees that were changed, and nothing for a size that is too great.
func TestSpoiled(t *testing.T) {
	r := rand.New(rand.NewSource(11))
	accepted, refused := 0, 0
	for _, p := range problems() {
		least, _ := hitting.Least(p)
		tree, _ := hitting.Prove(p, len(least))
		for range 60 {
			spoiled := spoil(r, tree)
			if r.Intn(2) == 0 {
				spoiled = spoil(r, spoiled)
			}
			for size := max(0, len(least)-1); size <= min(len(least)+1, p.Numbers); size++ {
				want := proves(p, size, spoiled)
				e := hitting.Verify(p, size, spoiled)
				if (e == api.OK) != want || e != api.OK && e != api.ErrCertificate || e == api.OK && size > len(least) {
					t.Fatalf("Verify(%v, %d, %v) = %d", p, size, spoiled, e)
				}
				if want {
					accepted++
				} else {
					refused++
				}
			}
		}
	}
	if accepted < 1000 || refused < 1000 {
		t.Errorf("%d trees are accepted, %d refused", accepted, refused)
	}
}

// P9.4: problems that need many nodes.
func TestProveGreatest(t *testing.T) {
	r := rand.New(rand.NewSource(12))
	l := []problem{
		groups([2]int{6, 3}, [2]int{7, 4}, [2]int{7, 4}), groups([2]int{7, 3}, [2]int{7, 3}, [2]int{6, 3}), groups([2]int{7, 4}, [2]int{7, 4}, [2]int{6, 4}),
		groups([2]int{5, 3}, [2]int{7, 5}, [2]int{8, 5}), groups([2]int{5, 3}, [2]int{7, 4}, [2]int{8, 6}), groups([2]int{8, 4}, [2]int{6, 4}, [2]int{6, 4}),
		groups([2]int{3, 2}, [2]int{8, 5}, [2]int{9, 7}), groups([2]int{10, 8}, [2]int{10, 8}), groups([2]int{9, 2}, [2]int{11, 2}), groups([2]int{9, 6}, [2]int{11, 10}),
		groups([2]int{3, 2}, [2]int{3, 2}, [2]int{3, 2}, [2]int{3, 2}, [2]int{3, 2}, [2]int{5, 4}), groups([2]int{20, 19}),
	}
	for size := 1; size <= 12; size++ {
		l = append(l, random(r, 20, hitting.MaxSets, size, size), random(r, 20, hitting.MaxSets, 1+size/2, size))
	}
	for i, p := range l {
		least, e := hitting.Least(p)
		if e != api.OK {
			t.Fatalf("%d: Least = %d", i, e)
		}
		for _, size := range []int{len(least), len(least) - 1, len(least) / 2} {
			tree, e := hitting.Prove(p, max(size, 0))
			if e != api.OK || len(tree) > hitting.MaxNodes/5 {
				t.Errorf("%d: Prove(%d) = %d nodes, %d", i, size, len(tree), e)
			}
			if e := hitting.Verify(p, max(size, 0), tree); e != api.OK || !proves(p, max(size, 0), tree) {
				t.Errorf("%d: Verify(%d) = %d", i, size, e)
			}
		}
		if len(least) < p.Numbers {
			if _, e := hitting.Prove(p, len(least)+1); e != api.ErrNone {
				t.Errorf("%d: Prove(%d) = %d", i, len(least)+1, e)
			}
		}
	}
}
