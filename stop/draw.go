package stop

import (
	"cmp"
	"maps"
	"slices"

	"bombarde/api"
	"bombarde/noteset"
	"bombarde/pitch"
)

// Draws returns what a key draws.
func Draws(s api.Stop, key int) []api.Draw { return slices.Clone(drawn(s, key)) }

// drawn returns the part of a stop that says what a key draws.
func drawn(s api.Stop, key int) []api.Draw {
	i := slices.IndexFunc(s.Segments, func(segment api.Segment) bool {
		return segment.From <= key && key <= segment.To
	})
	if i < 0 {
		return nil
	}
	return s.Segments[i].Draws
}

// found returns the pipes that draws have for a key, draw by draw.
func found(ranks []api.Rank, draws []api.Draw, key int) []api.Pipe {
	var l []api.Pipe
	for _, d := range draws {
		if !isIndex(d.Rank, len(ranks)) {
			continue
		}
		p := api.Pipe{Rank: d.Rank, Number: key + d.Shift - ranks[d.Rank].First}
		if isPipe(ranks, p) {
			l = append(l, p)
		}
	}
	return l
}

// isPipe reports whether ranks have a pipe.
func isPipe(ranks []api.Rank, p api.Pipe) bool {
	return isIndex(p.Rank, len(ranks)) && isIndex(p.Number, len(ranks[p.Rank].Wind))
}

// pipes is a set of pipes.
type pipes map[api.Pipe]bool

// add adds the pipes of a key to a set.
func (set pipes) add(ranks []api.Rank, s api.Stop, key int) {
	for _, p := range found(ranks, drawn(s, key), key) {
		set[p] = true
	}
}

// list returns the pipes of a set in order.
func (set pipes) list() []api.Pipe {
	return slices.SortedFunc(maps.Keys(set), func(a, b api.Pipe) int {
		return cmp.Or(cmp.Compare(a.Rank, b.Rank), cmp.Compare(a.Number, b.Number))
	})
}

// Pipes returns the pipes of a key in order.
func Pipes(ranks []api.Rank, s api.Stop, key int) []api.Pipe {
	set := pipes{}
	set.add(ranks, s, key)
	return set.list()
}

// Used returns the pipes of all keys in order.
func Used(x Place, s api.Stop) ([]api.Pipe, api.Errno) {
	if e := Check(x, s); e != api.OK {
		return nil, e
	}
	set := pipes{}
	for key := x.Keys.Low; key <= x.Keys.High; key++ {
		set.add(x.Ranks, s, key)
	}
	return set.list(), api.OK
}

// Speaking returns the keys that have a pipe.
func Speaking(x Place, s api.Stop) (api.Notes, api.Errno) {
	if e := Check(x, s); e != api.OK {
		return api.Notes{}, e
	}
	return keysThat(x.Keys, func(key int) bool { return len(found(x.Ranks, drawn(s, key), key)) > 0 }), api.OK
}

// Missing returns the keys that draw nothing, or have a draw without a pipe.
func Missing(x Place, s api.Stop) (api.Notes, api.Errno) {
	if e := Check(x, s); e != api.OK {
		return api.Notes{}, e
	}
	return keysThat(x.Keys, func(key int) bool {
		draws := drawn(s, key)
		return len(draws) == 0 || len(found(x.Ranks, draws, key)) < len(draws)
	}), api.OK
}

// Keys returns the keys that have a certain pipe.
func Keys(x Place, s api.Stop, p api.Pipe) (api.Notes, api.Errno) {
	if e := Check(x, s); e != api.OK {
		return api.Notes{}, e
	}
	if !isPipe(x.Ranks, p) {
		return api.Notes{}, api.ErrUnknown
	}
	return keysThat(x.Keys, func(key int) bool { return slices.Contains(found(x.Ranks, drawn(s, key), key), p) }), api.OK
}

// keysThat returns the keys of a right compass for which a function holds.
func keysThat(c api.Compass, holds func(key int) bool) api.Notes {
	var l []int
	for key := c.Low; key <= c.High; key++ {
		if holds(key) {
			l = append(l, key)
		}
	}
	set, _ := noteset.Of(l)
	return set
}

// Breaks returns the first keys of the segments that do not go on with what the segment before draws.
func Breaks(s api.Stop) []int {
	var l []int
	for i := 1; i < len(s.Segments); i++ {
		before, segment := s.Segments[i-1], s.Segments[i]
		if segment.From != before.To+1 || !slices.Equal(segment.Draws, before.Draws) {
			l = append(l, segment.From)
		}
	}
	return l
}

// Agrees reports whether the first draws of all segments have the pitch of the stop.
func Agrees(x Place, s api.Stop) (bool, api.Errno) {
	if e := Check(x, s); e != api.OK {
		return false, e
	}
	return !slices.ContainsFunc(s.Segments, func(segment api.Segment) bool {
		if len(segment.Draws) == 0 {
			return false
		}
		first := segment.Draws[0]
		shift, _ := pitch.Shift(s.Feet, x.Ranks[first.Rank].Feet)
		return shift != first.Shift
	}), api.OK
}
