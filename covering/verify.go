package covering

import (
	"slices"

	"bombarde/api"
)

// verifier checks a proof that no cover costs less than the claim.
type verifier struct {
	table
	claim   int
	proof   []api.Node
	reached []bool
}

// Verify returns the error of a cover with its proof.
func Verify(p Problem, c Cover) api.Errno {
	t, e := tableWith(p, c.Sets)
	if e != api.OK {
		return e
	}
	sets := bitsOf(c.Sets)
	switch {
	case t.missing(sets) != 0:
		return api.ErrForm
	case t.cost(sets) != c.Cost:
		return api.ErrCertificate
	case len(c.Proof) > MaxNodes:
		return api.ErrLimit
	}
	v := verifier{t, c.Cost, c.Proof, make([]bool, len(c.Proof))}
	if len(c.Proof) == 0 || !v.proves(0, 0, 0) || slices.Contains(v.reached, false) {
		return api.ErrCertificate
	}
	return api.OK
}

// proves reports whether a node is right for some sets that are taken, and some that are left out, and so are all nodes below it.
func (v *verifier) proves(at int, taken, out bitset) bool {
	if v.reached[at] {
		return false
	}
	v.reached[at] = true
	n := v.proof[at]
	switch n.Pick {
	case boundPick:
		return v.bounds(n, taken, out)
	case gapPick:
		return n.Bound >= 0 && n.Bound < len(v.holders) && v.holders[n.Bound]&^out == 0
	}
	within := func(node int) bool { return node > at && node < len(v.proof) }
	if !within(n.Yes) || !within(n.No) || n.Pick < 0 || n.Pick >= len(v.elements) || (taken | out).has(n.Pick) {
		return false
	}
	return v.proves(n.Yes, taken.with(n.Pick), out) && v.proves(n.No, taken, out.with(n.Pick))
}

// bounds reports whether a bound is right for some sets that are taken, and some that are left out.
func (v *verifier) bounds(n api.Node, taken, out bitset) bool {
	if len(n.Weights) != len(v.holders) || slices.ContainsFunc(n.Weights, badWeight) {
		return false
	}
	missing := v.missing(taken)
	for element, weight := range n.Weights {
		if weight > 0 && !missing.has(element) {
			return false
		}
	}
	return v.packs(n.Weights, v.all()&^(taken|out)) && n.Bound == v.cost(taken)+sum(n.Weights) && n.Bound >= v.claim
}
