package share

import (
	"cmp"
	"slices"

	"bombarde/api"
	"bombarde/noteset"
)

// Clash says that a key of one stop and a key of another one draw the same pipe.
type Clash struct {
	KeyA, KeyB int
	Pipe       api.Pipe
}

// interval returns the interval of a clash.
func (c Clash) interval() int { return c.KeyB - c.KeyA }

// compareClashes compares two clashes by their order.
func compareClashes(a, b Clash) int {
	return cmp.Or(cmp.Compare(a.KeyA, b.KeyA), cmp.Compare(a.KeyB, b.KeyB), comparePipes(a.Pipe, b.Pipe))
}

// clashes returns all clashes of two stops, in no order.
func clashes(o api.Organ, a, b Ref) ([]Clash, api.Errno) {
	if e := checkStops(o, a, b); e != api.OK {
		return nil, e
	}
	var l []Clash
	second := used(o, b)
	for p, keys := range used(o, a) {
		for _, keyA := range keys {
			for _, keyB := range second[p] {
				l = append(l, Clash{KeyA: keyA, KeyB: keyB, Pipe: p})
			}
		}
	}
	return l, api.OK
}

// Clashes returns the keys of two stops that draw the same pipe.
func Clashes(o api.Organ, a, b Ref) ([]Clash, api.Errno) {
	l, e := clashes(o, a, b)
	switch {
	case e != api.OK:
		return nil, e
	case len(l) > MaxClashes:
		return nil, api.ErrLimit
	}
	slices.SortFunc(l, compareClashes)
	return l, api.OK
}

// Intervals returns the intervals at which two stops draw the same pipe.
func Intervals(o api.Organ, a, b Ref) ([]int, api.Errno) {
	all, e := clashes(o, a, b)
	if e != api.OK {
		return nil, e
	}
	var l []int
	for _, c := range all {
		l = append(l, c.interval())
	}
	slices.Sort(l)
	return slices.Compact(l), api.OK
}

// At returns the keys of the first stop for which both stops draw the same pipe at one interval.
func At(o api.Organ, a, b Ref, interval int) (api.Notes, api.Errno) {
	all, e := clashes(o, a, b)
	if e != api.OK {
		return api.Notes{}, e
	}
	var keys []int
	for _, c := range all {
		if c.interval() == interval {
			keys = append(keys, c.KeyA)
		}
	}
	return noteset.Of(keys)
}
