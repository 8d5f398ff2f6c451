package rank

import (
	"slices"

	"bombarde/api"
	"bombarde/pitch"
)

// changed returns a rank with another first note and copies of some ranges of winds, one after another.
func changed(r api.Rank, first int, ranges ...[]int) api.Rank {
	return api.Rank{Name: r.Name, Tone: r.Tone, Feet: r.Feet, First: first, Wind: slices.Concat(ranges...)}
}

// Slice returns a rank with some of its pipes, from one on.
func Slice(r api.Rank, from, pipes int) (api.Rank, api.Errno) {
	if e := checkPipe(r, from); e != api.OK {
		return api.Rank{}, e
	}
	if pipes < 1 || pipes > len(r.Wind)-from {
		return api.Rank{}, api.ErrRange
	}
	return changed(r, r.First+from, r.Wind[from:from+pipes]), api.OK
}

// Below returns a rank with further pipes below its first one.
func Below(r api.Rank, wind []int) (api.Rank, api.Errno) {
	if e := checkFurther(r, wind); e != api.OK {
		return api.Rank{}, e
	}
	first := r.First - len(wind)
	if !isFirst(first) {
		return api.Rank{}, api.ErrRange
	}
	return changed(r, first, wind, r.Wind), api.OK
}

// Above returns a rank with further pipes above its last one.
func Above(r api.Rank, wind []int) (api.Rank, api.Errno) {
	if e := checkFurther(r, wind); e != api.OK {
		return api.Rank{}, e
	}
	return changed(r, r.First, r.Wind, wind), api.OK
}

// checkFurther returns the error of a rank, or of the winds of further pipes of it.
func checkFurther(r api.Rank, wind []int) api.Errno {
	if e := Check(r); e != api.OK {
		return e
	}
	if e := checkWind(wind); e != api.OK {
		return e
	}
	if len(r.Wind)+len(wind) > api.MaxPipes {
		return api.ErrLimit
	}
	return api.OK
}

// Join returns a rank with its pipes, and then those of another one that goes on where it ends.
func Join(a, b api.Rank) (api.Rank, api.Errno) {
	if e := Check(a); e != api.OK {
		return api.Rank{}, e
	}
	if e := Check(b); e != api.OK {
		return api.Rank{}, e
	}
	switch {
	case a.Tone != b.Tone || a.Feet != b.Feet:
		return api.Rank{}, api.ErrConflict
	case b.First != last(a)+1:
		return api.Rank{}, api.ErrOrder
	case len(a.Wind)+len(b.Wind) > api.MaxPipes:
		return api.Rank{}, api.ErrLimit
	}
	return changed(a, a.First, a.Wind, b.Wind), api.OK
}

// Repitch returns the same pipes, described at other feet.
func Repitch(r api.Rank, feet api.Fraction) (api.Rank, api.Errno) {
	if e := Check(r); e != api.OK {
		return api.Rank{}, e
	}
	shift, e := pitch.Shift(feet, r.Feet)
	if e != api.OK {
		return api.Rank{}, e
	}
	first := r.First - shift
	if !isFirst(first) {
		return api.Rank{}, api.ErrRange
	}
	other := changed(r, first, r.Wind)
	other.Feet = feet
	return other, api.OK
}
