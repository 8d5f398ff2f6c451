package control

import (
	"slices"

	"bombarde/api"
)

// Start returns the state in which nothing is drawn and all memories are empty.
func Start(c Console) (State, api.Errno) {
	if e := Check(c); e != api.OK {
		return State{}, e
	}
	s := State{
		Drawn:      nothing(c),
		General:    make([][]api.Registration, c.Levels),
		Divisional: make([][][]uint64, c.Levels),
	}
	for level := range c.Levels {
		for range c.General {
			s.General[level] = append(s.General[level], nothing(c))
		}
		for _, pistons := range c.Divisional {
			s.Divisional[level] = append(s.Divisional[level], make([]uint64, pistons))
		}
	}
	return s, api.OK
}

// nothing returns the registration without anything.
func nothing(c Console) api.Registration {
	return api.Registration{Stops: make([]uint64, len(c.Stops))}
}

// copied returns a list of copies of what a list has.
func copied[T any](l []T, one func(T) T) []T {
	copies := make([]T, len(l))
	for i, x := range l {
		copies[i] = one(x)
	}
	return copies
}

// copiedRegistration returns a registration with memory of its own.
func copiedRegistration(r api.Registration) api.Registration {
	return api.Registration{Stops: slices.Clone(r.Stops), Couplers: r.Couplers, Off: r.Off}
}

// copiedState returns a state with memory of its own.
func copiedState(s State) State {
	registrations := func(l []api.Registration) []api.Registration { return copied(l, copiedRegistration) }
	sets := func(l [][]uint64) [][]uint64 { return copied(l, slices.Clone[[]uint64]) }
	return State{
		Drawn:      copiedRegistration(s.Drawn),
		Level:      s.Level,
		General:    copied(s.General, registrations),
		Divisional: copied(s.Divisional, sets),
		Past:       registrations(s.Past),
	}
}

// Do returns the state after an event.
func Do(c Console, s State, x Event) (State, api.Errno) {
	out, _, e := Run(c, s, []Event{x})
	return out, e
}

// Run returns the state after several events, or the index of the first one that fails.
func Run(c Console, s State, l []Event) (out State, failed int, e api.Errno) {
	if e := Sound(c, s); e != api.OK {
		return State{}, 0, e
	}
	if len(l) > MaxEvents {
		return State{}, 0, api.ErrLimit
	}
	out = copiedState(s)
	for i, x := range l {
		if e := happen(c, &out, x); e != api.OK {
			return State{}, i, e
		}
	}
	return out, 0, api.OK
}

// happen lets an event change a right state, or returns its error and changes nothing.
func happen(c Console, s *State, x Event) api.Errno {
	if x.Kind < Stop || x.Kind > Undo {
		return api.ErrKind
	}
	what := kinds()[x.Kind]
	switch {
	case !what.known(c, x):
		return api.ErrUnknown
	case x.Kind == Undo && len(s.Past) == 0:
		return api.ErrState
	}
	before := copiedRegistration(s.Drawn)
	what.do(s, x)
	if x.Kind != Undo && !Equal(before, s.Drawn) {
		remember(s, before)
	}
	return api.OK
}

// remember adds a registration to the past, which keeps the latest ones.
func remember(s *State, r api.Registration) {
	s.Past = append(s.Past, r)
	if len(s.Past) > MaxPast {
		s.Past = slices.Delete(s.Past, 0, 1)
	}
}

// Changes returns the events that lead from one registration to another one.
func Changes(c Console, a, b api.Registration) ([]Event, api.Errno) {
	if e := Check(c); e != api.OK {
		return nil, e
	}
	if e := checkRegistrations(c, []api.Registration{a, b}); e != api.OK {
		return nil, e
	}
	var l []Event
	for i, stops := range c.Stops {
		l = append(l, turns(Event{Kind: Stop, Division: i}, stops, a.Stops[i]^b.Stops[i])...)
	}
	l = append(l, turns(Event{Kind: Coupler}, c.Couplers, a.Couplers^b.Couplers)...)
	return append(l, turns(Event{Kind: Off}, len(c.Stops), a.Off^b.Off)...), api.OK
}

// turns returns an event with each index below a number whose bit is set.
func turns(x Event, things int, set uint64) []Event {
	var l []Event
	for x.Index = range things {
		if set>>x.Index&1 == 1 {
			l = append(l, x)
		}
	}
	return l
}
