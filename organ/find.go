package organ

import (
	"slices"

	"bombarde/api"
	"bombarde/rank"
)

// Count has numbers of an organ.
type Count struct{ Ranks, Pipes, Divisions, Stops, Draws, Couplers int }

// Statistics counts what there is.
func Statistics(o api.Organ) (Count, api.Errno) {
	if e := Check(o); e != api.OK {
		return Count{}, e
	}
	n := Count{Ranks: len(o.Ranks), Divisions: len(o.Divisions), Couplers: len(o.Couplers)}
	for _, r := range o.Ranks {
		n.Pipes += len(r.Wind)
	}
	for _, d := range o.Divisions {
		n.Stops += len(d.Stops)
		for _, s := range d.Stops {
			for _, segment := range s.Segments {
				n.Draws += len(segment.Draws)
			}
		}
	}
	return n, api.OK
}

// Equal reports whether two organs are equal.
func Equal(a, b api.Organ) bool {
	return a.Name == b.Name && slices.EqualFunc(a.Ranks, b.Ranks, rank.Equal) &&
		slices.EqualFunc(a.Divisions, b.Divisions, equalDivisions) && slices.Equal(a.Couplers, b.Couplers)
}

// equalDivisions reports whether two divisions are equal.
func equalDivisions(a, b api.Division) bool {
	return a.Name == b.Name && a.Pedal == b.Pedal && a.Keys == b.Keys && slices.EqualFunc(a.Stops, b.Stops, equalStops)
}

// equalStops reports whether two stops are equal.
func equalStops(a, b api.Stop) bool {
	return a.Name == b.Name && a.Feet == b.Feet && slices.EqualFunc(a.Segments, b.Segments, equalSegments)
}

// equalSegments reports whether two segments are equal.
func equalSegments(a, b api.Segment) bool {
	return a.From == b.From && a.To == b.To && slices.Equal(a.Draws, b.Draws)
}

// Rank finds a rank by its name.
func Rank(o api.Organ, name string) (index int, found bool, e api.Errno) {
	if e := Check(o); e != api.OK {
		return 0, false, e
	}
	return find(o.Ranks, func(r api.Rank) bool { return r.Name == name })
}

// Division finds a division by its name.
func Division(o api.Organ, name string) (index int, found bool, e api.Errno) {
	if e := Check(o); e != api.OK {
		return 0, false, e
	}
	return find(o.Divisions, func(d api.Division) bool { return d.Name == name })
}

// Stop finds a stop of a division by its name.
func Stop(o api.Organ, division int, name string) (index int, found bool, e api.Errno) {
	if e := Check(o); e != api.OK {
		return 0, false, e
	}
	if !isIndex(division, len(o.Divisions)) {
		return 0, false, api.ErrUnknown
	}
	return find(o.Divisions[division].Stops, func(s api.Stop) bool { return s.Name == name })
}

// Coupler finds a coupler by its name.
func Coupler(o api.Organ, name string) (index int, found bool, e api.Errno) {
	if e := Check(o); e != api.OK {
		return 0, false, e
	}
	return find(o.Couplers, func(c api.Coupler) bool { return c.Name == name })
}

// find returns the index of the thing that has a name, if there is one.
func find[T any](l []T, has func(T) bool) (index int, found bool, e api.Errno) {
	if i := slices.IndexFunc(l, has); i >= 0 {
		return i, true, api.OK
	}
	return 0, false, api.OK
}
