package span

import (
	"iter"

	"bombarde/api"
	"bombarde/noteset"
)

// wordBits is how many notes each half of a set has.
const wordBits = 64

// upTo returns the notes of a set up to a note.
func upTo(s api.Notes, n int) api.Notes {
	if n < wordBits {
		return api.Notes{Low: s.Low & (1<<(n+1) - 1)}
	}
	return api.Notes{Low: s.Low, High: s.High & (1<<(n-wordBits+1) - 1)}
}

// below yields the notes of a set from below.
func below(s api.Notes) iter.Seq[int] {
	return func(yield func(int) bool) {
		for {
			n, found := noteset.Least(s)
			if !found || !yield(n) {
				return
			}
			s = noteset.Without(s, upTo(s, n))
		}
	}
}

// cuts yields the parts into which a set can be cut, the lower one and the higher one, with more and more notes in the lower one.
func cuts(s api.Notes) iter.Seq2[api.Notes, api.Notes] {
	return func(yield func(left, right api.Notes) bool) {
		if !yield(api.Notes{}, s) {
			return
		}
		for n := range below(s) {
			left := upTo(s, n)
			if !yield(left, noteset.Without(s, left)) {
				return
			}
		}
	}
}

// divisions yields those parts that one hand each of a right player can hold.
func divisions(p api.Player, s api.Notes) iter.Seq2[api.Notes, api.Notes] {
	return func(yield func(left, right api.Notes) bool) {
		for left, right := range cuts(s) {
			if handHolds(p, left) && handHolds(p, right) && !yield(left, right) {
				return
			}
		}
	}
}

// first returns the first division of a set, if there is one.
func first(p api.Player, s api.Notes) (left, right api.Notes, found bool) {
	for left, right := range divisions(p, s) {
		return left, right, true
	}
	return api.Notes{}, api.Notes{}, false
}

// Two returns the first division of a set between two hands, if there is one.
func Two(p api.Player, s api.Notes) (left, right api.Notes, found bool, e api.Errno) {
	if e := Check(p); e != api.OK {
		return api.Notes{}, api.Notes{}, false, e
	}
	left, right, found = first(p, s)
	return left, right, found, api.OK
}

// All returns all divisions of a set between two hands.
func All(p api.Player, s api.Notes) ([][2]api.Notes, api.Errno) {
	if e := Check(p); e != api.OK {
		return nil, e
	}
	var all [][2]api.Notes
	for left, right := range divisions(p, s) {
		all = append(all, [2]api.Notes{left, right})
	}
	return all, api.OK
}

// Least returns the least span of hands with which two of them can hold a set, if there is one.
func Least(p api.Player, s api.Notes) (span int, found bool, e api.Errno) {
	if e := Check(p); e != api.OK {
		return 0, false, e
	}
	for left, right := range cuts(s) {
		if noteset.Count(left) > p.HandNotes || noteset.Count(right) > p.HandNotes {
			continue
		}
		wider := max(width(left), width(right))
		if !found || wider < span {
			span, found = wider, true
		}
	}
	return span, found, api.OK
}
