package control_test

import (
	"math"
	"slices"
	"testing"

	"bombarde/api"
	"bombarde/control"
)

// reg returns a registration.
func reg(couplers, off uint64, stops ...uint64) api.Registration {
	return api.Registration{Stops: stops, Couplers: couplers, Off: off}
}

// console returns the console of most tests.
func console() control.Console {
	return control.Console{Stops: []int{3, 0, 2}, Couplers: 4, General: 2, Divisional: []int{1, 2, 3}, Levels: 2}
}

// chapter returns the console of the chapter.
func chapter() control.Console {
	return control.Console{Stops: []int{2, 1}, Couplers: 1, General: 1, Divisional: []int{0, 0}, Levels: 1}
}

// greatest returns a console with as much of everything as there can be.
func greatest() control.Console {
	return control.Console{Stops: slices.Repeat([]int{60}, 8), Couplers: 40, General: 20, Divisional: slices.Repeat([]int{20}, 8), Levels: 16}
}

// consoles returns right consoles.
func consoles() []control.Console {
	return []control.Console{console(), chapter(), greatest(), {Levels: 1}, {Stops: []int{0}, Divisional: []int{0}, Levels: 16}, {Stops: []int{0, 5}, Divisional: []int{3, 0}, Couplers: 1, Levels: 3}}
}

// state returns a right state for the console of most tests.
func state() control.State {
	return control.State{
		Drawn:      reg(9, 1, 5, 0, 2),
		Level:      1,
		General:    [][]api.Registration{{reg(0, 0, 1, 0, 1), reg(15, 7, 7, 0, 3)}, {reg(1, 2, 2, 0, 0), reg(9, 1, 5, 0, 2)}},
		Divisional: [][][]uint64{{{1}, {0, 0}, {1, 2, 3}}, {{7}, {0, 0}, {0, 2, 1}}},
		Past:       []api.Registration{reg(0, 0, 0, 0, 0), reg(0, 0, 1, 0, 0)},
	}
}

// sameState reports whether two states are equal; empty lists are equal to nil.
func sameState(a, b control.State) bool {
	registrations := func(x, y []api.Registration) bool { return slices.EqualFunc(x, y, same) }
	sets := func(x, y [][]uint64) bool { return slices.EqualFunc(x, y, slices.Equal[[]uint64]) }
	return same(a.Drawn, b.Drawn) && a.Level == b.Level && slices.EqualFunc(a.General, b.General, registrations) &&
		slices.EqualFunc(a.Divisional, b.Divisional, sets) && registrations(a.Past, b.Past)
}

// same reports whether two registrations are equal.
func same(a, b api.Registration) bool {
	return slices.Equal(a.Stops, b.Stops) && a.Couplers == b.Couplers && a.Off == b.Off
}

// isZero reports whether no field of a state is set.
func isZero(s control.State) bool { return sameState(s, control.State{}) }

// consoleFlaw is a change that makes the console wrong, and its error; the flaws of one field cannot be had together.
type consoleFlaw struct {
	field  int
	change func(c *control.Console)
	e      api.Errno
}

// consoleFlaws has changes that make the console wrong, in the order in which the chapter names their errors.
func consoleFlaws() []consoleFlaw {
	return []consoleFlaw{
		{0, func(c *control.Console) { c.Stops = make([]int, 9) }, api.ErrLimit},
		{0, func(c *control.Console) { c.Stops, c.Divisional = make([]int, 9), make([]int, 9) }, api.ErrLimit},
		{1, func(c *control.Console) { c.Stops[0] = -1 }, api.ErrRange},
		{1, func(c *control.Console) { c.Stops[2] = 61 }, api.ErrRange},
		{1, func(c *control.Console) { c.Stops[1] = math.MinInt }, api.ErrRange},
		{1, func(c *control.Console) { c.Stops[1] = math.MaxInt }, api.ErrRange},
		{2, func(c *control.Console) { c.Couplers = -1 }, api.ErrRange},
		{2, func(c *control.Console) { c.Couplers = 41 }, api.ErrRange},
		{3, func(c *control.Console) { c.General = -1 }, api.ErrRange},
		{3, func(c *control.Console) { c.General = 21 }, api.ErrRange},
		{4, func(c *control.Console) { c.Divisional = append(c.Divisional, 0) }, api.ErrSize},
		{4, func(c *control.Console) { c.Divisional = nil }, api.ErrSize},
		{4, func(c *control.Console) { c.Divisional = append(c.Divisional, -1) }, api.ErrSize},
		{5, func(c *control.Console) { c.Divisional[0] = -1 }, api.ErrRange},
		{5, func(c *control.Console) { c.Divisional[0] = 21 }, api.ErrRange},
		{6, func(c *control.Console) { c.Levels = 0 }, api.ErrRange},
		{6, func(c *control.Console) { c.Levels = 17 }, api.ErrRange},
		{6, func(c *control.Console) { c.Levels = math.MinInt }, api.ErrRange},
	}
}

// wrongConsole is a console that is not right, with its error.
type wrongConsole struct {
	c control.Console
	e api.Errno
}

// wrongConsoles returns the console with each flaw, and with each two that can be had together.
func wrongConsoles() []wrongConsole {
	var l []wrongConsole
	for i, x := range consoleFlaws() {
		c := console()
		x.change(&c)
		l = append(l, wrongConsole{c, x.e})
		for _, y := range consoleFlaws()[i+1:] {
			if y.field == x.field {
				continue
			}
			// The earlier flaw is made last, since it can replace a list that the later one changes.
			c := console()
			y.change(&c)
			x.change(&c)
			l = append(l, wrongConsole{c, x.e})
		}
	}
	return l
}

// P17.1
func TestCheck(t *testing.T) {
	for i, x := range wrongConsoles() {
		if e := control.Check(x.c); e != x.e {
			t.Errorf("%d: Check(%v) = %d, not %d", i, x.c, e, x.e)
		}
		for _, r := range []api.Registration{{}, reg(0, 0, 0, 0, 0), reg(99, 99, 99)} {
			if e := control.Right(x.c, r); e != x.e {
				t.Errorf("%d: Right = %d, not %d", i, e, x.e)
			}
		}
	}
	for i, c := range consoles() {
		if e := control.Check(c); e != api.OK {
			t.Errorf("%d: Check = %d", i, e)
		}
	}
	if e := control.Check(control.Console{}); e != api.ErrRange {
		t.Errorf("Check without levels = %d", e)
	}
}

// P17.1
func TestRight(t *testing.T) {
	c := console()
	for i, x := range []struct {
		r api.Registration
		e api.Errno
	}{
		{reg(0, 0, 0, 0, 0), api.OK}, {reg(15, 7, 7, 0, 3), api.OK}, {reg(0, 0, 0, 0), api.ErrSize}, {reg(0, 0), api.ErrSize}, {reg(0, 0, 0, 0, 0, 0), api.ErrSize}, {reg(99, 99, 99, 99), api.ErrSize},
		{reg(0, 0, 8, 0, 0), api.ErrRange}, {reg(0, 0, 0, 1, 0), api.ErrRange}, {reg(0, 0, 0, 0, 4), api.ErrRange}, {reg(0, 0, 0, 0, 1<<63), api.ErrRange}, {reg(16, 0, 0, 0, 0), api.ErrRange}, {reg(1<<63, 0, 0, 0, 0), api.ErrRange}, {reg(0, 8, 0, 0, 0), api.ErrRange}, {reg(0, 1<<63, 0, 0, 0), api.ErrRange},
	} {
		if e := control.Right(c, x.r); e != x.e {
			t.Errorf("%d: Right(%v) = %d, not %d", i, x.r, e, x.e)
		}
	}
	all := reg(1<<40-1, 255, slices.Repeat([]uint64{1<<60 - 1}, 8)...)
	if e := control.Right(greatest(), all); e != api.OK {
		t.Errorf("Right of everything = %d", e)
	}
	all.Stops[7] = 1 << 60
	if e := control.Right(greatest(), all); e != api.ErrRange {
		t.Errorf("Right with the stop 60 = %d", e)
	}
}

// P17.1
func TestEqual(t *testing.T) {
	different := []api.Registration{{}, reg(0, 0, 0), reg(0, 0, 0, 0), reg(0, 0, 1, 0), reg(0, 0, 0, 1), reg(1, 0, 0), reg(0, 1, 0), reg(1, 0), reg(0, 1), reg(math.MaxUint64, math.MaxUint64, math.MaxUint64)}
	for i, a := range different {
		for k, b := range different {
			b.Stops = slices.Clone(b.Stops)
			if is := control.Equal(a, b); is != (i == k) {
				t.Errorf("Equal(%v, %v) = %t", a, b, is)
			}
		}
	}
	if !control.Equal(reg(3, 2), api.Registration{Stops: []uint64{}, Couplers: 3, Off: 2}) || !control.Equal(api.Registration{}, api.Registration{Stops: []uint64{}}) {
		t.Error("nil is not empty")
	}
}

// stateFlaw is a change that makes the state wrong, and its error; the flaws of one field cannot be had together.
type stateFlaw struct {
	field  int
	change func(s *control.State)
	e      api.Errno
}

// stateFlaws has changes that make the state wrong, in the order in which the chapter names their errors.
func stateFlaws() []stateFlaw {
	many := slices.Repeat([]api.Registration{reg(0, 0, 0, 0, 0)}, 21)
	return []stateFlaw{
		{0, func(s *control.State) { s.Drawn.Stops = s.Drawn.Stops[:2] }, api.ErrSize},
		{0, func(s *control.State) { s.Drawn.Stops[0] = 8 }, api.ErrRange},
		{0, func(s *control.State) { s.Drawn.Couplers = 16 }, api.ErrRange},
		{0, func(s *control.State) { s.Drawn.Off = 8 }, api.ErrRange},
		{1, func(s *control.State) { s.Level = -1 }, api.ErrRange},
		{1, func(s *control.State) { s.Level = 2 }, api.ErrRange},
		{1, func(s *control.State) { s.Level = math.MinInt }, api.ErrRange},
		{2, func(s *control.State) { s.General = append(s.General, s.General[0]) }, api.ErrSize},
		{3, func(s *control.State) { s.General[0] = append(s.General[0], reg(0, 0)) }, api.ErrSize},
		{4, func(s *control.State) { s.General[0][0].Stops = nil }, api.ErrSize},
		{4, func(s *control.State) { s.General[0][0].Off = 8 }, api.ErrRange},
		{5, func(s *control.State) { s.General[0][1].Stops = append(s.General[0][1].Stops, 0) }, api.ErrSize},
		{6, func(s *control.State) { s.General[1] = append(s.General[1], reg(0, 0)) }, api.ErrSize},
		{7, func(s *control.State) { s.General[1][0].Couplers = 16 }, api.ErrRange},
		{8, func(s *control.State) { s.Divisional = append(s.Divisional, nil) }, api.ErrSize},
		{9, func(s *control.State) { s.Divisional[0] = append(s.Divisional[0], nil) }, api.ErrSize},
		{10, func(s *control.State) { s.Divisional[0][0] = nil }, api.ErrSize},
		{10, func(s *control.State) { s.Divisional[0][0] = []uint64{0, 0} }, api.ErrSize},
		{10, func(s *control.State) { s.Divisional[0][0] = []uint64{8} }, api.ErrRange},
		{11, func(s *control.State) { s.Divisional[0][1] = []uint64{0, 1} }, api.ErrRange},
		{12, func(s *control.State) { s.Divisional[0][2] = []uint64{0} }, api.ErrSize},
		{13, func(s *control.State) { s.Divisional[1] = append(s.Divisional[1], nil) }, api.ErrSize},
		{14, func(s *control.State) { s.Divisional[1][2] = []uint64{0, 0, 1 << 63} }, api.ErrRange},
		{15, func(s *control.State) { s.Past = many }, api.ErrLimit},
		{15, func(s *control.State) { s.Past = append([]api.Registration{{}}, many...) }, api.ErrLimit},
		{16, func(s *control.State) { s.Past[0].Stops = nil }, api.ErrSize},
		{17, func(s *control.State) { s.Past[1].Off = 8 }, api.ErrRange},
	}
}

// wrongState is a state that is not right, with its error.
type wrongState struct {
	s control.State
	e api.Errno
}

// wrongStates returns the state with each flaw, and with each two that can be had together.
func wrongStates() []wrongState {
	var l []wrongState
	for i, x := range stateFlaws() {
		s := state()
		x.change(&s)
		l = append(l, wrongState{s, x.e})
		for _, y := range stateFlaws()[i+1:] {
			if y.field == x.field || x.field == 15 {
				continue
			}
			s := state()
			y.change(&s)
			x.change(&s)
			l = append(l, wrongState{s, x.e})
		}
	}
	return l
}

// P17.2
func TestSound(t *testing.T) {
	for i, x := range wrongStates() {
		if e := control.Sound(console(), x.s); e != x.e {
			t.Errorf("%d: Sound(%v) = %d, not %d", i, x.s, e, x.e)
		}
	}
	for i, x := range wrongConsoles() {
		for _, s := range []control.State{state(), {}, wrongStates()[3].s} {
			if e := control.Sound(x.c, s); e != x.e {
				t.Errorf("%d: Sound of a wrong console = %d, not %d", i, e, x.e)
			}
		}
	}
	s := state()
	s.Past = slices.Repeat(s.Past, 10)
	if e := control.Sound(console(), s); e != api.OK {
		t.Errorf("Sound with a past of 20 = %d", e)
	}
	s.Past = nil
	if e := control.Sound(console(), s); e != api.OK {
		t.Errorf("Sound without a past = %d", e)
	}
}

// P17.3
func TestStart(t *testing.T) {
	for i, c := range consoles() {
		none := func() api.Registration { return api.Registration{Stops: make([]uint64, len(c.Stops))} }
		want := control.State{Drawn: none()}
		for level := range c.Levels {
			want.General, want.Divisional = append(want.General, nil), append(want.Divisional, nil)
			for range c.General {
				want.General[level] = append(want.General[level], none())
			}
			for _, pistons := range c.Divisional {
				want.Divisional[level] = append(want.Divisional[level], make([]uint64, pistons))
			}
		}
		s, e := control.Start(c)
		if !sameState(s, want) || e != api.OK || control.Sound(c, s) != api.OK {
			t.Errorf("%d: Start = %v, %d", i, s, e)
		}
	}
	for i, x := range wrongConsoles() {
		if s, e := control.Start(x.c); !isZero(s) || e != x.e {
			t.Errorf("%d: Start = %v, %d, not %d", i, s, e, x.e)
		}
	}
}
