// Package noteset names notes, and calculates with sets of them. It is layer 3: see shared/doc/03-noteset.md.
package noteset

import (
	"iter"
	"math/bits"
	"slices"

	"bombarde/api"
)

// wordBits is how many notes each half of a set has.
const wordBits = 64

// valid reports whether an int is a note.
func valid(n int) bool { return 0 <= n && n <= api.MaxNote }

// single returns the set of one note.
func single(n int) api.Notes {
	if n < wordBits {
		return api.Notes{Low: 1 << n}
	}
	return api.Notes{High: 1 << (n - wordBits)}
}

// Of returns the set of some notes.
func Of(l []int) (api.Notes, api.Errno) {
	var s api.Notes
	for _, n := range l {
		if !valid(n) {
			return api.Notes{}, api.ErrRange
		}
		s = Union(s, single(n))
	}
	return s, api.OK
}

// Range returns the set of all notes of a compass.
func Range(c api.Compass) (api.Notes, api.Errno) {
	if e := CheckCompass(c); e != api.OK {
		return api.Notes{}, e
	}
	all := api.Notes{Low: ^uint64(0), High: ^uint64(0)}
	// Shifted to the lower end of all notes, and back, the compass loses what is above it.
	return Shift(Shift(all, c.High-c.Low-api.MaxNote), c.Low), api.OK
}

// CheckCompass returns the error of a compass.
func CheckCompass(c api.Compass) api.Errno {
	switch {
	case c.Low < 0 || c.High > api.MaxNote:
		return api.ErrRange
	case c.Low > c.High:
		return api.ErrCompass
	}
	return api.OK
}

// Members returns the notes of a set in increasing order.
func Members(s api.Notes) []int { return slices.Collect(members(s)) }

// members yields the notes of a set from below.
func members(s api.Notes) iter.Seq[int] {
	return func(yield func(int) bool) {
		for rest := s; ; {
			n, is := Least(rest)
			if !is || !yield(n) {
				return
			}
			rest = Without(rest, single(n))
		}
	}
}

// Count returns how many notes a set has.
func Count(s api.Notes) int { return bits.OnesCount64(s.Low) + bits.OnesCount64(s.High) }

// Has reports whether a note is one of a set.
func Has(s api.Notes, n int) bool { return valid(n) && Within(single(n), s) }

// Least returns the least note of a set, and whether there is one.
func Least(s api.Notes) (int, bool) {
	switch {
	case s.Low != 0:
		return bits.TrailingZeros64(s.Low), true
	case s.High != 0:
		return wordBits + bits.TrailingZeros64(s.High), true
	}
	return 0, false
}

// Greatest returns the greatest note of a set, and whether there is one.
func Greatest(s api.Notes) (int, bool) {
	switch {
	case s.High != 0:
		return wordBits + bits.Len64(s.High) - 1, true
	case s.Low != 0:
		return bits.Len64(s.Low) - 1, true
	}
	return 0, false
}

// Union returns the notes that are in one of both sets.
func Union(a, b api.Notes) api.Notes {
	return api.Notes{Low: a.Low | b.Low, High: a.High | b.High}
}

// Both returns the notes that are in both sets.
func Both(a, b api.Notes) api.Notes {
	return api.Notes{Low: a.Low & b.Low, High: a.High & b.High}
}

// Without returns the notes of a that are not in b.
func Without(a, b api.Notes) api.Notes {
	return api.Notes{Low: a.Low &^ b.Low, High: a.High &^ b.High}
}

// Within reports whether all notes of a are in b.
func Within(a, b api.Notes) bool { return Without(a, b) == api.Notes{} }

// Shift moves all notes; what leaves the range from 0 to api.MaxNote is dropped.
func Shift(s api.Notes, by int) api.Notes {
	switch {
	case by < -api.MaxNote || by > api.MaxNote:
		return api.Notes{}
	case by < 0:
		return down(s, -by)
	}
	return up(s, by)
}

// up moves all notes up by less than both words have bits.
func up(s api.Notes, by int) api.Notes {
	if by >= wordBits {
		return api.Notes{High: s.Low << (by - wordBits)}
	}
	return api.Notes{Low: s.Low << by, High: s.High<<by | s.Low>>(wordBits-by)}
}

// down moves all notes down by less than both words have bits.
func down(s api.Notes, by int) api.Notes {
	if by >= wordBits {
		return api.Notes{Low: s.High >> (by - wordBits)}
	}
	return api.Notes{Low: s.Low>>by | s.High<<(wordBits-by), High: s.High >> by}
}
