package swell

import (
	"cmp"
	"iter"
	"math/bits"
	"slices"

	"bombarde/api"
)

// Table is how loud each stop of each division is, and the boxes of the divisions (without levels: none).
type Table struct {
	Stops [][]int
	Boxes []Box
}

// CheckTable returns the error of a table.
func CheckTable(t Table) api.Errno {
	switch {
	case len(t.Stops) > api.MaxDivisions:
		return api.ErrLimit
	case len(t.Boxes) != len(t.Stops):
		return api.ErrSize
	}
	for i, stops := range t.Stops {
		if e := checkStops(stops); e != api.OK {
			return e
		}
		if len(t.Boxes[i].Levels) == 0 {
			continue
		}
		if e := Check(t.Boxes[i]); e != api.OK {
			return e
		}
	}
	return api.OK
}

// checkStops returns the error of how loud the stops of a division are.
func checkStops(l []int) api.Errno {
	if len(l) > api.MaxStops {
		return api.ErrLimit
	}
	for _, n := range l {
		if !isWithin(n, 0, MaxLevel) {
			return api.ErrRange
		}
	}
	return api.OK
}

// checkRegistration returns the error of a registration for a right table.
func checkRegistration(t Table, r api.Registration) api.Errno {
	if len(r.Stops) != len(t.Stops) {
		return api.ErrSize
	}
	for i, drawn := range r.Stops {
		for stop := range ones(drawn) {
			if !isIndex(stop, len(t.Stops[i])) {
				return api.ErrUnknown
			}
		}
	}
	return api.OK
}

// checkStages returns the error of stages of the boxes of a right table.
func checkStages(t Table, stages []int) api.Errno {
	if len(stages) != len(t.Boxes) {
		return api.ErrSize
	}
	for i, stage := range stages {
		if !isIndex(stage, max(1, len(t.Boxes[i].Levels))) {
			return api.ErrRange
		}
	}
	return api.OK
}

// ones yields the bits of a set, from the lowest one on.
func ones(set uint64) iter.Seq[int] {
	return func(yield func(int) bool) {
		for ; set != 0; set &= set - 1 {
			if !yield(bits.TrailingZeros64(set)) {
				return
			}
		}
	}
}

// loudness returns the loudness of a right registration with right stages.
func (t Table) loudness(r api.Registration, stages []int) int {
	all := 0
	for i, drawn := range r.Stops {
		sum := 0
		for stop := range ones(drawn) {
			sum += t.Stops[i][stop]
		}
		if levels := t.Boxes[i].Levels; len(levels) > 0 {
			sum = sum * levels[stages[i]] / open
		}
		all += sum
	}
	return all
}

// Loudness returns the loudness of a registration with stages of the boxes.
func Loudness(t Table, r api.Registration, stages []int) (int, api.Errno) {
	if e := CheckTable(t); e != api.OK {
		return 0, e
	}
	if e := checkRegistration(t, r); e != api.OK {
		return 0, e
	}
	if e := checkStages(t, stages); e != api.OK {
		return 0, e
	}
	return t.loudness(r, stages), api.OK
}

// lastStages returns the last stages of all boxes.
func (t Table) lastStages() []int {
	l := make([]int, len(t.Boxes))
	for i, b := range t.Boxes {
		l[i] = max(0, len(b.Levels)-1)
	}
	return l
}

// Order returns registrations from the softest to the loudest.
func Order(t Table, l []api.Registration) ([]int, api.Errno) {
	if e := CheckTable(t); e != api.OK {
		return nil, e
	}
	last := t.lastStages()
	loud, order := make([]int, len(l)), make([]int, len(l))
	for i, r := range l {
		if e := checkRegistration(t, r); e != api.OK {
			return nil, e
		}
		loud[i], order[i] = t.loudness(r, last), i
	}
	slices.SortStableFunc(order, func(a, b int) int { return cmp.Compare(loud[a], loud[b]) })
	return order, api.OK
}
