package stop

import (
	"slices"

	"bombarde/api"
	"bombarde/noteset"
	"bombarde/pitch"
	"bombarde/rank"
)

// checkSource returns the error of a source, or of the name of a stop that draws it.
func checkSource(x Source, name string) api.Errno {
	if e := checkPlace(x.Place); e != api.OK {
		return e
	}
	switch {
	case !isIndex(x.Rank, len(x.Place.Ranks)):
		return api.ErrUnknown
	case !rank.IsName(name):
		return api.ErrName
	}
	return api.OK
}

// drawAt returns the draw of a right source for feet.
func drawAt(x Source, feet api.Fraction) (api.Draw, api.Errno) {
	shift, e := pitch.Shift(feet, x.Place.Ranks[x.Rank].Feet)
	switch {
	case e != api.OK:
		return api.Draw{}, e
	case !isShift(shift):
		return api.Draw{}, api.ErrRange
	}
	return api.Draw{Rank: x.Rank, Shift: shift}, api.OK
}

// Unit returns a stop of one rank at some feet.
func Unit(x Source, name string, feet api.Fraction) (api.Stop, api.Errno) {
	if e := checkSource(x, name); e != api.OK {
		return api.Stop{}, e
	}
	draw, e := drawAt(x, feet)
	if e != api.OK {
		return api.Stop{}, e
	}
	keys := x.Place.Keys
	whole := api.Segment{From: keys.Low, To: keys.High, Draws: []api.Draw{draw}}
	return api.Stop{Name: name, Feet: feet, Segments: []api.Segment{whole}}, api.OK
}

// Mixture returns a stop of one rank whose feet change with the rows of a table.
func Mixture(x Source, name string, table []Break) (api.Stop, api.Errno) {
	if e := checkSource(x, name); e != api.OK {
		return api.Stop{}, e
	}
	if e := checkLength(len(table)); e != api.OK {
		return api.Stop{}, e
	}
	segments := make([]api.Segment, 0, len(table))
	for i, row := range table {
		if e := checkBegin(x.Place.Keys, table, i); e != api.OK {
			return api.Stop{}, e
		}
		draws, e := drawsAt(x, row.Feet)
		if e != api.OK {
			return api.Stop{}, e
		}
		segments = append(segments, api.Segment{From: row.From, To: lastKey(x.Place.Keys, table, i), Draws: draws})
	}
	return api.Stop{Name: name, Feet: table[0].Feet[0], Segments: segments}, api.OK
}

// checkBegin returns the error of the key from which a row of a table is on.
func checkBegin(c api.Compass, table []Break, i int) api.Errno {
	from := table[i].From
	switch {
	case i == 0 && from != c.Low, i > 0 && from <= table[i-1].From:
		return api.ErrOrder
	case !isKey(c, from):
		return api.ErrCompass
	}
	return api.OK
}

// lastKey returns the last key of a row of a table, if the next row begins with a right key.
func lastKey(c api.Compass, table []Break, i int) int {
	if i+1 < len(table) {
		return table[i+1].From - 1
	}
	return c.High
}

// drawsAt returns the draws of a right source for the feet of a row.
func drawsAt(x Source, feet []api.Fraction) ([]api.Draw, api.Errno) {
	switch {
	case len(feet) == 0:
		return nil, api.ErrEmpty
	case len(feet) > api.MaxDraws:
		return nil, api.ErrLimit
	}
	var draws []api.Draw
	for _, f := range feet {
		draw, e := drawAt(x, f)
		switch {
		case e != api.OK:
			return nil, e
		case slices.Contains(draws, draw):
			return nil, api.ErrDuplicate
		}
		draws = append(draws, draw)
	}
	return draws, api.OK
}

// Fit returns a stop for another compass.
func Fit(x Place, s api.Stop, to api.Compass) (api.Stop, api.Errno) {
	if e := Check(x, s); e != api.OK {
		return api.Stop{}, e
	}
	if e := noteset.CheckCompass(to); e != api.OK {
		return api.Stop{}, e
	}
	var segments []api.Segment
	for _, segment := range s.Segments {
		from, last := max(segment.From, to.Low), min(segment.To, to.High)
		if from <= last {
			segments = append(segments, api.Segment{From: from, To: last, Draws: slices.Clone(segment.Draws)})
		}
	}
	if len(segments) == 0 {
		return api.Stop{}, api.ErrEmpty
	}
	return api.Stop{Name: s.Name, Feet: s.Feet, Segments: segments}, api.OK
}
