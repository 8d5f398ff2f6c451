package diagram

import (
	"cmp"
	"slices"

	"bombarde/api"
	"bombarde/formula"
)

const (
	wayNodes  = 20 * MaxNodes // that can be made on the way to the diagram of a formula
	maxChosen = 1 << 21       // triples of places that are kept
)

// builder holds nodes in which each Boolean function has one place at the most.
type builder struct {
	nodes  []Node
	places map[Node]int   // of the nodes that are there already
	chosen map[[3]int]int // what choose has returned for three places
	most   int            // nodes that there can be
	full   bool           // more of them were asked for, so that places mean nothing any more
}

// newBuilder returns a builder without nodes.
func newBuilder(most int) *builder {
	return &builder{places: map[Node]int{}, chosen: map[[3]int]int{}, most: most}
}

// node returns the place of the function that goes on at one of two places.
func (b *builder) node(variable, no, yes int) int {
	if no == yes {
		return no
	}
	n := Node{Variable: variable, No: no, Yes: yes}
	if place, there := b.places[n]; there {
		return place
	}
	if len(b.nodes) >= b.most {
		b.full = true
		return falsePlace
	}
	b.nodes = append(b.nodes, n)
	b.places[n] = firstPlace + len(b.nodes) - 1
	return b.places[n]
}

// choose returns the place of the function that is yes where the one at a place is true, and otherwise no.
func (b *builder) choose(which, yes, no int) int {
	// Where yes counts, the first function is true, and where no counts, it is false.
	if yes == which {
		yes = truePlace
	}
	if no == which {
		no = falsePlace
	}
	switch {
	case b.full || which == truePlace || yes == no:
		return yes
	case which == falsePlace:
		return no
	case yes == truePlace && no == falsePlace:
		return which
	}
	key := [3]int{which, yes, no}
	if place, there := b.chosen[key]; there {
		return place
	}
	variable := min(variableAt(which, b.nodes), variableAt(yes, b.nodes), variableAt(no, b.nodes))
	part := func(value bool) int {
		return b.choose(b.restricted(which, variable, value), b.restricted(yes, variable, value), b.restricted(no, variable, value))
	}
	place := b.node(variable, part(false), part(true))
	// What is forgotten is found again, if it is needed. There can be as many triples as the product of the numbers of nodes, which memory does not hold.
	if len(b.chosen) >= maxChosen {
		clear(b.chosen)
	}
	b.chosen[key] = place
	return place
}

// restricted returns the place at which it goes on for a value of a variable that is not behind that of the place.
func (b *builder) restricted(place, variable int, value bool) int {
	switch {
	case variableAt(place, b.nodes) != variable:
		return place
	case value:
		return b.nodes[place-firstPlace].Yes
	}
	return b.nodes[place-firstPlace].No
}

// and and or return the places of both, and of one of both.
func (b *builder) and(p, q int) int { return b.choose(p, q, falsePlace) }
func (b *builder) or(p, q int) int  { return b.choose(p, truePlace, q) }

// add returns the place of a right diagram.
func (b *builder) add(d Diagram) int { return b.rebuild(d, b.node) }

// rebuild returns what a function makes of a right diagram from below: of the variable of each node, and of what it made of No and Yes.
func (b *builder) rebuild(d Diagram, change func(variable, no, yes int) int) int {
	places := []int{falsePlace, truePlace}
	for _, n := range d.Nodes {
		places = append(places, change(n.Variable, places[n.No], places[n.Yes]))
	}
	return places[d.Root]
}

// diagram returns the diagram at a place.
func (b *builder) diagram(root int) (Diagram, api.Errno) {
	if b.full {
		return Diagram{}, api.ErrLimit
	}
	var d Diagram
	places := make([]int, firstPlace+len(b.nodes))
	places[truePlace] = truePlace
	walk(b.nodes, root, func(place int) {
		n := b.nodes[place-firstPlace]
		d.Nodes = append(d.Nodes, Node{Variable: n.Variable, No: places[n.No], Yes: places[n.Yes]})
		places[place] = firstPlace + len(d.Nodes) - 1
	})
	d.Root = places[root]
	if len(d.Nodes) > MaxNodes {
		return Diagram{}, api.ErrLimit
	}
	return d, api.OK
}

// combine returns the diagram that a function makes of the places of some diagrams.
func combine(l []Diagram, change func(b *builder, places []int) int) (Diagram, api.Errno) {
	b, places, e := shared(l)
	if e != api.OK {
		return Diagram{}, e
	}
	// Each node that choose makes is one of what it returns at last, which cannot have more.
	b.most = len(b.nodes) + MaxNodes
	return b.diagram(change(b, places))
}

// shared returns a builder with some diagrams, and their places.
func shared(l []Diagram) (b *builder, places []int, e api.Errno) {
	for _, d := range l {
		if e := Check(d); e != api.OK {
			return nil, nil, e
		}
	}
	b = newBuilder(len(l) * MaxNodes)
	for _, d := range l {
		places = append(places, b.add(d))
	}
	return b, places, api.OK
}

// And returns the diagram of both.
func And(a, b Diagram) (Diagram, api.Errno) {
	return combine([]Diagram{a, b}, func(b *builder, places []int) int { return b.and(places[0], places[1]) })
}

// Or returns the diagram of one of both.
func Or(a, b Diagram) (Diagram, api.Errno) {
	return combine([]Diagram{a, b}, func(b *builder, places []int) int { return b.or(places[0], places[1]) })
}

// Choose returns the diagram that is the second one where the first one is true, and otherwise the third one.
func Choose(a, b, c Diagram) (Diagram, api.Errno) {
	return combine([]Diagram{a, b, c}, func(b *builder, places []int) int { return b.choose(places[0], places[1], places[2]) })
}

// Implies reports whether the second diagram is true wherever the first one is.
func Implies(a, b Diagram) (bool, api.Errno) {
	s, places, e := shared([]Diagram{a, b})
	if e != api.OK {
		return false, e
	}
	// A node that would have to be made tells that the result is not the constant True.
	s.most = len(s.nodes)
	place := s.choose(places[0], places[1], truePlace)
	return place == truePlace && !s.full, api.OK
}

// Restrict puts a value in place of a variable.
func Restrict(d Diagram, variable int, value bool) (Diagram, api.Errno) {
	return replace(d, variable, func(b *builder, no, yes int) int {
		if value {
			return yes
		}
		return no
	})
}

// Exists says whether one of both values of a variable makes a diagram true.
func Exists(d Diagram, variable int) (Diagram, api.Errno) {
	return replace(d, variable, (*builder).or)
}

// replace returns the diagram in which a function takes the place of the choice between two places by a variable.
func replace(d Diagram, variable int, change func(b *builder, no, yes int) int) (Diagram, api.Errno) {
	if e := checkWith(d, variable); e != api.OK {
		return Diagram{}, e
	}
	// Behind the variable all nodes stay as they are; each other one that is made is one of the result.
	b := newBuilder(len(d.Nodes) + MaxNodes)
	return b.diagram(b.rebuild(d, func(asked, no, yes int) int {
		if asked == variable {
			return change(b, no, yes)
		}
		return b.node(asked, no, yes)
	}))
}

// Of returns the diagram of a formula.
func Of(f formula.Formula) (Diagram, api.Errno) {
	if e := formula.Check(f); e != api.OK {
		return Diagram{}, e
	}
	b := newBuilder(wayNodes)
	return b.diagram(b.of(f, false))
}

// of returns the place of a formula, or of its negation.
func (b *builder) of(f formula.Formula, negated bool) int {
	switch f.Kind {
	case api.Var:
		return b.node(f.Arg, constantPlace(negated), constantPlace(!negated))
	case api.Not:
		return b.of(f.In[0], !negated)
	case api.False, api.True:
		return constantPlace((f.Kind == api.True) != negated)
	}
	var places []int
	for _, in := range f.In {
		places = append(places, b.of(in, negated))
	}
	if (f.Kind == api.And) != negated {
		return b.join(places, truePlace, b.and)
	}
	return b.join(places, falsePlace, b.or)
}

// join combines places with each other, the ones with the greatest variables first: what lies below is not made again then.
func (b *builder) join(places []int, joined int, operation func(p, q int) int) int {
	slices.SortStableFunc(places, func(p, q int) int {
		return cmp.Compare(variableAt(q, b.nodes), variableAt(p, b.nodes))
	})
	for _, place := range places {
		joined = operation(place, joined)
	}
	return joined
}
