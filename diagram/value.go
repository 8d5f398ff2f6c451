package diagram

import (
	"slices"

	"bombarde/api"
	"bombarde/formula"
	"bombarde/integer"
)

// Value returns the value for some values of the variables.
func Value(d Diagram, values []bool) (bool, api.Errno) {
	if e := Check(d); e != api.OK {
		return false, e
	}
	if !among(d, len(values)) {
		return false, api.ErrSize
	}
	place := d.Root
	for place >= firstPlace {
		n := d.Nodes[place-firstPlace]
		place = n.No
		if values[n.Variable] {
			place = n.Yes
		}
	}
	return place == truePlace, api.OK
}

// among reports whether all variables that occur are among so many.
func among(d Diagram, variables int) bool {
	return !slices.ContainsFunc(d.Nodes, func(n Node) bool { return n.Variable >= variables })
}

// checkAmong returns the error of a diagram with a number of variables.
func checkAmong(d Diagram, variables, most int) api.Errno {
	if e := Check(d); e != api.OK {
		return e
	}
	if variables < 0 || variables > most {
		return api.ErrRange
	}
	if !among(d, variables) {
		return api.ErrSize
	}
	return api.OK
}

// Support returns the variables that occur.
func Support(d Diagram) ([]int, api.Errno) {
	if e := Check(d); e != api.OK {
		return nil, e
	}
	var variables []int
	for _, n := range d.Nodes {
		variables = append(variables, n.Variable)
	}
	slices.Sort(variables)
	return slices.Compact(variables), api.OK
}

// Count returns for how many values of some variables a diagram is true.
func Count(d Diagram, variables int) (api.Int, api.Errno) {
	if e := checkAmong(d, variables, MaxCount); e != api.OK {
		return "", e
	}
	powers := []api.Int{"1"} // of 2
	for range variables {
		powers = append(powers, integer.Add(powers[len(powers)-1], powers[len(powers)-1]))
	}
	counts := []api.Int{"0", "1"} // of the values of the variables from that of the place on
	from := func(variable, place int) api.Int {
		between := min(variableAt(place, d.Nodes), variables) - variable
		if between == 0 {
			return counts[place]
		}
		return integer.Mul(powers[between], counts[place])
	}
	for _, n := range d.Nodes {
		counts = append(counts, integer.Add(from(n.Variable+1, n.No), from(n.Variable+1, n.Yes)))
	}
	return from(0, d.Root), api.OK
}

// Witness returns the first values for which a diagram is true.
func Witness(d Diagram, variables int) (values []bool, found bool, e api.Errno) {
	if e := checkAmong(d, variables, formula.MaxVariables); e != api.OK {
		return nil, false, e
	}
	if d.Root == falsePlace {
		return nil, false, api.OK
	}
	// Only the constant False is never true.
	values = make([]bool, variables)
	for place := d.Root; place >= firstPlace; {
		n := d.Nodes[place-firstPlace]
		place = n.No
		if n.No == falsePlace {
			values[n.Variable] = true
			place = n.Yes
		}
	}
	return values, true, api.OK
}
