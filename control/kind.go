package control

import (
	"slices"

	"bombarde/api"
)

// kind says of the events of a kind whether what they name is there, and what they do.
type kind struct {
	known func(c Console, x Event) bool
	do    func(s *State, x Event)
}

// kinds returns what events are and do, by their kinds; none has the kind 0.
func kinds() [Undo + 1]kind {
	return [...]kind{
		Stop:          {isStop, func(s *State, x Event) { s.Drawn.Stops[x.Division] ^= 1 << x.Index }},
		Coupler:       {isCoupler, func(s *State, x Event) { s.Drawn.Couplers ^= 1 << x.Index }},
		Off:           {isDivision, func(s *State, x Event) { s.Drawn.Off ^= 1 << x.Index }},
		General:       {isGeneral, drawGeneral},
		Divisional:    {isDivisional, drawDivisional},
		SetGeneral:    {isGeneral, setGeneral},
		SetDivisional: {isDivisional, setDivisional},
		Level:         {isLevel, func(s *State, x Event) { s.Level = x.Index }},
		Cancel:        {namesNothing, cancel},
		Undo:          {namesNothing, undo},
	}
}

// isStop reports whether the stop of an event is there.
func isStop(c Console, x Event) bool {
	return isIndex(x.Division, len(c.Stops)) && isIndex(x.Index, c.Stops[x.Division])
}

// isCoupler reports whether the coupler of an event is there.
func isCoupler(c Console, x Event) bool { return isIndex(x.Index, c.Couplers) }

// isDivision reports whether the division of a unison off is there.
func isDivision(c Console, x Event) bool { return isIndex(x.Index, len(c.Stops)) }

// isGeneral reports whether the general piston of an event is there.
func isGeneral(c Console, x Event) bool { return isIndex(x.Index, c.General) }

// isDivisional reports whether the divisional piston of an event is there.
func isDivisional(c Console, x Event) bool {
	return isIndex(x.Division, len(c.Divisional)) && isIndex(x.Index, c.Divisional[x.Division])
}

// isLevel reports whether the level of an event is there.
func isLevel(c Console, x Event) bool { return isIndex(x.Index, c.Levels) }

// namesNothing is for events that name nothing that could be missing.
func namesNothing(Console, Event) bool { return true }

// drawGeneral draws what a general piston remembers.
func drawGeneral(s *State, x Event) { s.Drawn = copiedRegistration(s.General[s.Level][x.Index]) }

// drawDivisional draws the stops that a divisional piston remembers.
func drawDivisional(s *State, x Event) {
	s.Drawn.Stops[x.Division] = s.Divisional[s.Level][x.Division][x.Index]
}

// setGeneral makes a general piston remember what is drawn.
func setGeneral(s *State, x Event) { s.General[s.Level][x.Index] = copiedRegistration(s.Drawn) }

// setDivisional makes a divisional piston remember the stops that are drawn.
func setDivisional(s *State, x Event) {
	s.Divisional[s.Level][x.Division][x.Index] = s.Drawn.Stops[x.Division]
}

// cancel puts everything in.
func cancel(s *State, _ Event) { s.Drawn = api.Registration{Stops: make([]uint64, len(s.Drawn.Stops))} }

// undo draws the last registration of the past, and takes it away from there.
func undo(s *State, _ Event) {
	last := len(s.Past) - 1
	s.Drawn = s.Past[last]
	// Deleting clears the place behind the end, which would share the memory of what is drawn.
	s.Past = slices.Delete(s.Past, last, last+1)
}
