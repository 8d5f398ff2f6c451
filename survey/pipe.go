package survey

import (
	"bombarde/api"
	"bombarde/organ"
)

// use is how many stops draw a pipe, and the last one of them.
type use struct {
	stops int
	last  Found
}

// uses returns the use of all pipes that are drawn.
func uses(o api.Organ) map[api.Pipe]use {
	known := map[api.Pipe]use{}
	for t := range touches(o) {
		for _, p := range t.pipes {
			if u := known[p]; u.stops == 0 || u.last != t.at {
				known[p] = use{stops: u.stops + 1, last: t.at}
			}
		}
	}
	return known
}

// isUnused reports whether no stop draws a pipe.
func isUnused(stops int) bool { return stops == 0 }

// isShared reports whether several stops draw a pipe.
func isShared(stops int) bool { return stops > 1 }

// Unused returns the pipes that no stop draws.
func Unused(o api.Organ) ([]api.Pipe, api.Errno) {
	if e := organ.Check(o); e != api.OK {
		return nil, e
	}
	return pipesOf(o, isUnused), api.OK
}

// Shared returns the pipes that several stops draw.
func Shared(o api.Organ) ([]api.Pipe, api.Errno) {
	if e := organ.Check(o); e != api.OK {
		return nil, e
	}
	return pipesOf(o, isShared), api.OK
}

// pipesOf returns the pipes of a right organ for whose number of stops a function holds.
func pipesOf(o api.Organ, holds func(stops int) bool) []api.Pipe {
	known := uses(o)
	var l []api.Pipe
	for i, r := range o.Ranks {
		for n := range r.Wind {
			p := api.Pipe{Rank: i, Number: n}
			if holds(known[p].stops) {
				l = append(l, p)
			}
		}
	}
	return l
}

// Bare returns the divisions whose stops draw no pipe.
func Bare(o api.Organ) ([]int, api.Errno) {
	if e := organ.Check(o); e != api.OK {
		return nil, e
	}
	return bare(o), api.OK
}

// bare returns the divisions of a right organ whose stops draw no pipe.
func bare(o api.Organ) []int {
	drawing := make([]bool, len(o.Divisions))
	for t := range touches(o) {
		if !t.isMute() {
			drawing[t.at.Division] = true
		}
	}
	var l []int
	for i, is := range drawing {
		if !is {
			l = append(l, i)
		}
	}
	return l
}
