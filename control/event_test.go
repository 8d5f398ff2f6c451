package control_test

import (
	"math"
	"math/rand"
	"slices"
	"testing"

	"bombarde/api"
	"bombarde/control"
)

// ev returns an event.
func ev(kind, division, index int) control.Event {
	return control.Event{Kind: kind, Division: division, Index: index}
}

// after returns the state after events that must be possible.
func after(t *testing.T, c control.Console, s control.State, l ...control.Event) control.State {
	t.Helper()
	for _, x := range l {
		next, e := control.Do(c, s, x)
		if e != api.OK || control.Sound(c, next) != api.OK {
			t.Fatalf("Do(%v) = %v, %d", x, next, e)
		}
		s = next
	}
	return s
}

// with returns the state of most tests with a change.
func with(change func(s *control.State)) control.State {
	s := state()
	change(&s)
	return s
}

// P17.4: what each kind of event does.
func TestDo(t *testing.T) {
	drawn := func(r api.Registration) func(s *control.State) {
		return func(s *control.State) { s.Drawn, s.Past = r, append(s.Past, state().Drawn) }
	}
	same := func(s *control.State) {}
	for i, x := range []struct {
		event  control.Event
		change func(s *control.State)
	}{
		{ev(control.Stop, 0, 0), drawn(reg(9, 1, 4, 0, 2))}, {ev(control.Stop, 0, 1), drawn(reg(9, 1, 7, 0, 2))}, {ev(control.Stop, 2, 1), drawn(reg(9, 1, 5, 0, 0))}, {ev(control.Stop, 2, 0), drawn(reg(9, 1, 5, 0, 3))},
		{ev(control.Coupler, 99, 0), drawn(reg(8, 1, 5, 0, 2))}, {ev(control.Coupler, -1, 2), drawn(reg(13, 1, 5, 0, 2))}, {ev(control.Off, 99, 0), drawn(reg(9, 0, 5, 0, 2))}, {ev(control.Off, -1, 2), drawn(reg(9, 5, 5, 0, 2))},
		{ev(control.General, 99, 0), drawn(reg(1, 2, 2, 0, 0))}, {ev(control.General, -1, 1), same}, {ev(control.Divisional, 0, 0), drawn(reg(9, 1, 7, 0, 2))}, {ev(control.Divisional, 1, 1), same}, {ev(control.Divisional, 2, 0), drawn(reg(9, 1, 5, 0, 0))}, {ev(control.Divisional, 2, 1), same}, {ev(control.Divisional, 2, 2), drawn(reg(9, 1, 5, 0, 1))},
		{ev(control.SetGeneral, 99, 0), func(s *control.State) { s.General[1][0] = reg(9, 1, 5, 0, 2) }}, {ev(control.SetGeneral, -1, 1), same}, {ev(control.SetDivisional, 0, 0), func(s *control.State) { s.Divisional[1][0][0] = 5 }}, {ev(control.SetDivisional, 1, 1), same}, {ev(control.SetDivisional, 2, 2), func(s *control.State) { s.Divisional[1][2][2] = 2 }},
		{ev(control.Level, 99, 0), func(s *control.State) { s.Level = 0 }}, {ev(control.Level, -1, 1), same}, {ev(control.Cancel, -1, 99), drawn(reg(0, 0, 0, 0, 0))},
		{ev(control.Undo, 99, -1), func(s *control.State) { s.Drawn, s.Past = s.Past[1], s.Past[:1] }},
	} {
		s, e := control.Do(console(), state(), x.event)
		if want := with(x.change); !sameState(s, want) || e != api.OK {
			t.Errorf("%d: Do(%v) = %v, %d, not %v", i, x.event, s, e, want)
		}
	}
	empty, _ := control.Start(console())
	if s, e := control.Do(console(), empty, ev(control.Cancel, 0, 0)); !sameState(s, empty) || e != api.OK {
		t.Errorf("Cancel of nothing = %v, %d", s, e)
	}
}

// P17.4: what happens at one level stays there.
func TestLevels(t *testing.T) {
	s := with(func(s *control.State) { s.Level = 0 })
	s = after(t, console(), s, ev(control.General, 0, 1))
	if want := reg(15, 7, 7, 0, 3); !same(s.Drawn, want) {
		t.Errorf("the general piston of the level 0 draws %v, not %v", s.Drawn, want)
	}
	s = after(t, console(), s, ev(control.Divisional, 2, 0), ev(control.SetGeneral, 0, 0), ev(control.SetDivisional, 0, 0))
	want := with(func(s *control.State) {
		s.Level, s.Drawn = 0, reg(15, 7, 7, 0, 1)
		s.General[0][0], s.Divisional[0][0][0] = s.Drawn, 7
		s.Past = append(s.Past, reg(9, 1, 5, 0, 2), reg(15, 7, 7, 0, 3))
	})
	if !sameState(s, want) {
		t.Errorf("the events lead to %v, not %v", s, want)
	}
}

// impossible returns events that are not possible with a past, and their errors.
func impossible() []struct {
	x control.Event
	e api.Errno
} {
	var l []struct {
		x control.Event
		e api.Errno
	}
	add := func(e api.Errno, events ...control.Event) {
		for _, x := range events {
			l = append(l, struct {
				x control.Event
				e api.Errno
			}{x, e})
		}
	}
	for _, kind := range []int{0, -1, 11, math.MinInt, math.MaxInt} {
		add(api.ErrKind, ev(kind, 0, 0), ev(kind, 99, 99))
	}
	for _, far := range []int{-1, 99, math.MinInt, math.MaxInt} {
		for _, kind := range []int{control.Stop, control.Divisional, control.SetDivisional} {
			add(api.ErrUnknown, ev(kind, far, 0), ev(kind, 0, far), ev(kind, 3, 0))
		}
		for _, kind := range []int{control.Coupler, control.Off, control.General, control.SetGeneral, control.Level} {
			add(api.ErrUnknown, ev(kind, 0, far))
		}
	}
	add(api.ErrUnknown, ev(control.Stop, 0, 3), ev(control.Stop, 1, 0), ev(control.Stop, 2, 2), ev(control.Coupler, 0, 4), ev(control.Off, 0, 3), ev(control.General, 0, 2), ev(control.SetGeneral, 0, 2), ev(control.Divisional, 0, 1), ev(control.SetDivisional, 0, 1), ev(control.Divisional, 2, 3), ev(control.SetDivisional, 1, 2), ev(control.Level, 0, 2))
	return l
}

// P17.4, P1: the errors of Do, and the index of the event of Run.
func TestEventErrors(t *testing.T) {
	for _, x := range impossible() {
		if s, e := control.Do(console(), state(), x.x); !isZero(s) || e != x.e {
			t.Errorf("Do(%v) = %v, %d, not %d", x.x, s, e, x.e)
		}
		possible := ev(control.Stop, 0, 0)
		for _, n := range []int{0, 1, 5, 999} {
			l := append(slices.Repeat([]control.Event{possible}, n), x.x)
			if s, failed, e := control.Run(console(), state(), append(l, ev(0, 0, 0))[:min(1000, len(l)+1)]); !isZero(s) || failed != n || e != x.e {
				t.Errorf("Run(%v) behind %d others = %v, %d, %d", x.x, n, s, failed, e)
			}
		}
		for _, n := range []int{1001, 1500} {
			if s, failed, e := control.Run(console(), state(), slices.Repeat([]control.Event{x.x}, n)); !isZero(s) || failed != 0 || e != api.ErrLimit {
				t.Errorf("Run of %d events = %v, %d, %d", n, s, failed, e)
			}
		}
	}
	undo := ev(control.Undo, 0, 0)
	if s, failed, e := control.Run(console(), state(), []control.Event{undo, undo, undo, undo}); !isZero(s) || failed != 2 || e != api.ErrState {
		t.Errorf("Run of too many Undo = %v, %d, %d", s, failed, e)
	}
	empty, _ := control.Start(console())
	if s, e := control.Do(console(), empty, undo); !isZero(s) || e != api.ErrState {
		t.Errorf("Do of Undo = %v, %d", s, e)
	}
}

// P17.4, P1: the error of a wrong console or state comes before all others.
func TestEventsOfWrongStates(t *testing.T) {
	check := func(c control.Console, s control.State, want api.Errno) {
		t.Helper()
		for _, x := range []control.Event{ev(control.Cancel, 0, 0), ev(0, 0, 0), ev(control.Level, 0, 99)} {
			if s, e := control.Do(c, s, x); !isZero(s) || e != want {
				t.Errorf("Do(%v) = %v, %d, not %d", x, s, e, want)
			}
			for _, n := range []int{0, 1, 1001} {
				if s, failed, e := control.Run(c, s, slices.Repeat([]control.Event{x}, n)); !isZero(s) || failed != 0 || e != want {
					t.Errorf("Run of %d events = %v, %d, %d, not %d", n, s, failed, e, want)
				}
			}
		}
	}
	for _, x := range wrongStates() {
		check(console(), x.s, x.e)
	}
	for _, x := range wrongConsoles() {
		check(x.c, state(), x.e)
		check(x.c, wrongStates()[0].s, x.e)
	}
}

// P17.4: the examples of the chapter.
func TestExamples(t *testing.T) {
	c := chapter()
	start, e := control.Start(c)
	if e != api.OK {
		t.Fatalf("Start = %d", e)
	}
	first := after(t, c, start, ev(control.Stop, 0, 1))
	if !same(first.Drawn, reg(0, 0, 2, 0)) {
		t.Errorf("Stop 0 1 draws %v", first.Drawn)
	}
	s := after(t, c, first, ev(control.SetGeneral, 0, 0), ev(control.Cancel, 0, 0), ev(control.General, 0, 0))
	if !same(s.Drawn, reg(0, 0, 2, 0)) || len(s.Past) != 3 {
		t.Errorf("General 0 draws %v with the past %v", s.Drawn, s.Past)
	}
	for i, want := range []uint64{0, 2, 0} {
		s = after(t, c, s, ev(control.Undo, 0, 0))
		if !same(s.Drawn, reg(0, 0, want, 0)) || len(s.Past) != 2-i {
			t.Errorf("the Undo %d draws %v with the past %v", i, s.Drawn, s.Past)
		}
	}
	if _, e := control.Do(c, s, ev(control.Undo, 0, 0)); e != api.ErrState {
		t.Errorf("the fourth Undo = %d", e)
	}
	if _, e := control.Do(c, s, ev(control.Stop, 0, 2)); e != api.ErrUnknown {
		t.Errorf("Stop 0 2 = %d", e)
	}
}

// P17.4: the past keeps the last 20 registrations, and events that change nothing add none.
func TestPast(t *testing.T) {
	c := console()
	s, _ := control.Start(c)
	var drawn []api.Registration
	for i := range 50 {
		drawn = append(drawn, s.Drawn)
		s = after(t, c, s, ev(control.Coupler, 0, i*i%4), ev(control.Level, 0, i%2), ev(control.SetGeneral, 0, 1), ev(control.General, 0, 1), ev(control.SetDivisional, 2, 0), ev(control.Divisional, 2, 0))
		if want := drawn[max(0, i-19):]; !slices.EqualFunc(s.Past, want, same) {
			t.Fatalf("after %d changes the past is %v, not %v", i+1, s.Past, want)
		}
	}
	undone := slices.Repeat([]control.Event{ev(control.Undo, 0, 0)}, 20)
	if s := after(t, c, s, undone...); !same(s.Drawn, drawn[30]) || len(s.Past) > 0 {
		t.Errorf("20 Undo lead to %v with the past %v", s.Drawn, s.Past)
	}
}

// random returns an event that is possible but perhaps for a lack of a past.
func random(r *rand.Rand, c control.Console) control.Event {
	for {
		x := ev(1+r.Intn(10), r.Intn(len(c.Stops)), r.Intn(20))
		s, _ := control.Start(c)
		if _, e := control.Do(c, s, x); e == api.OK || e == api.ErrState {
			return x
		}
	}
}

// P17.4: Run is Do for one event after another.
func TestRun(t *testing.T) {
	r := rand.New(rand.NewSource(17))
	c := console()
	for range 60 {
		s := state()
		var l []control.Event
		for range r.Intn(60) {
			x := random(r, c)
			next, e := control.Do(c, s, x)
			if e == api.ErrState {
				continue
			}
			l, s = append(l, x), next
		}
		if got, failed, e := control.Run(c, state(), l); !sameState(got, s) || failed != 0 || e != api.OK {
			t.Errorf("Run(%v) = %v, %d, %d, not %v", l, got, failed, e, s)
		}
	}
	if got, failed, e := control.Run(c, state(), nil); !sameState(got, state()) || failed != 0 || e != api.OK {
		t.Errorf("Run of no events = %v, %d, %d", got, failed, e)
	}
	all := slices.Repeat([]control.Event{ev(control.Cancel, 0, 0), ev(control.Stop, 0, 1)}, 500)
	if got, failed, e := control.Run(c, state(), all); !same(got.Drawn, reg(0, 0, 2, 0, 0)) || failed != 0 || e != api.OK {
		t.Errorf("Run of 1000 events = %v, %d, %d", got, failed, e)
	}
}

// P17.5
func TestChanges(t *testing.T) {
	c := console()
	for i, x := range []struct {
		a, b api.Registration
		want []control.Event
	}{
		{reg(0, 0, 0, 0, 0), reg(15, 7, 7, 0, 3), []control.Event{ev(1, 0, 0), ev(1, 0, 1), ev(1, 0, 2), ev(1, 2, 0), ev(1, 2, 1), ev(2, 0, 0), ev(2, 0, 1), ev(2, 0, 2), ev(2, 0, 3), ev(3, 0, 0), ev(3, 0, 1), ev(3, 0, 2)}},
		{reg(9, 4, 5, 0, 2), reg(3, 1, 6, 0, 2), []control.Event{ev(1, 0, 0), ev(1, 0, 1), ev(2, 0, 1), ev(2, 0, 3), ev(3, 0, 0), ev(3, 0, 2)}},
		{reg(9, 4, 5, 0, 2), reg(9, 4, 5, 0, 2), nil},
	} {
		if l, e := control.Changes(c, x.a, x.b); !slices.Equal(l, x.want) || e != api.OK {
			t.Errorf("%d: Changes = %v, %d, not %v", i, l, e, x.want)
		}
		if l, e := control.Changes(c, x.b, x.a); !slices.Equal(l, x.want) || e != api.OK {
			t.Errorf("%d: Changes back = %v, %d, not %v", i, l, e, x.want)
		}
	}
	none, all := reg(0, 0, make([]uint64, 8)...), reg(1<<40-1, 255, slices.Repeat([]uint64{1<<60 - 1}, 8)...)
	if l, e := control.Changes(greatest(), none, all); len(l) != 528 || l[479] != ev(1, 7, 59) || l[519] != ev(2, 0, 39) || l[527] != ev(3, 0, 7) || e != api.OK {
		t.Errorf("Changes of everything = %v, %d", l, e)
	}
}

// P17.5, P1: the errors of Changes, in order.
func TestChangesErrors(t *testing.T) {
	right, short, wide := reg(0, 0, 0, 0, 0), reg(0, 0, 0), reg(16, 0, 0, 0, 0)
	for i, x := range []struct {
		a, b api.Registration
		e    api.Errno
	}{{short, right, api.ErrSize}, {right, short, api.ErrSize}, {wide, right, api.ErrRange}, {right, wide, api.ErrRange}, {short, wide, api.ErrSize}, {wide, short, api.ErrRange}} {
		if l, e := control.Changes(console(), x.a, x.b); len(l) > 0 || e != x.e {
			t.Errorf("%d: Changes = %v, %d, not %d", i, l, e, x.e)
		}
		for _, y := range wrongConsoles() {
			if l, e := control.Changes(y.c, x.a, x.b); len(l) > 0 || e != y.e {
				t.Errorf("%d: Changes of a wrong console = %v, %d, not %d", i, l, e, y.e)
			}
		}
	}
}

// P17.6
func TestConsequences(t *testing.T) {
	r := rand.New(rand.NewSource(176))
	c := console()
	for range 100 {
		s := state()
		for range r.Intn(30) {
			if next, e := control.Do(c, s, random(r, c)); e == api.OK {
				s = next
			}
		}
		set := after(t, c, s, ev(control.SetGeneral, 0, 0))
		later := set
		for range r.Intn(30) {
			x := random(r, c)
			if next, e := control.Do(c, later, x); e == api.OK && (x.Kind != control.SetGeneral || x.Index != 0 || later.Level != set.Level) {
				later = next
			}
		}
		if drawn := after(t, c, later, ev(control.Level, 0, set.Level), ev(control.General, 0, 0)).Drawn; !same(drawn, s.Drawn) {
			t.Errorf("the general piston draws %v, and was set to %v", drawn, s.Drawn)
		}
		if drawn := after(t, c, s, ev(control.Stop, 2, 1), ev(control.Stop, 2, 1)).Drawn; !same(drawn, s.Drawn) {
			t.Errorf("turning a stop twice draws %v instead of %v", drawn, s.Drawn)
		}
		x := random(r, c)
		if next, e := control.Do(c, s, x); e == api.OK && x.Kind != control.Undo && !same(next.Drawn, s.Drawn) {
			undone := after(t, c, next, ev(control.Undo, 0, 0))
			next.Drawn, next.Past = undone.Drawn, undone.Past
			if !same(undone.Drawn, s.Drawn) || !sameState(undone, next) {
				t.Errorf("Undo leads to %v", undone)
			}
		}
		changes, _ := control.Changes(c, s.Drawn, later.Drawn)
		if other := after(t, c, s, changes...); !same(other.Drawn, later.Drawn) || (len(changes) == 0) != same(s.Drawn, later.Drawn) {
			t.Errorf("the changes %v lead to %v, not %v", changes, other.Drawn, later.Drawn)
		}
		level := set.Level
		if !slices.EqualFunc(set.General[1-level], s.General[1-level], same) || !slices.EqualFunc(set.Divisional[1-level], s.Divisional[1-level], slices.Equal[[]uint64]) {
			t.Errorf("setting at the level %d changes the other one", level)
		}
	}
}

// spoil writes over everything that a state has, also behind the ends of its lists.
func spoil(s control.State) {
	registration := func(r api.Registration) {
		for i := range r.Stops[:cap(r.Stops)] {
			r.Stops[:cap(r.Stops)][i] = 99
		}
	}
	registration(s.Drawn)
	for _, level := range s.General {
		for i := range level {
			registration(level[i])
			level[i].Couplers = 99
		}
		_ = append(level, reg(99, 99))
	}
	for _, level := range s.Divisional {
		for _, sets := range level {
			for i := range sets[:cap(sets)] {
				sets[:cap(sets)][i] = 99
			}
			_ = append(sets, 99)
		}
	}
	for i := range s.Past[:cap(s.Past)] {
		registration(s.Past[:cap(s.Past)][i])
		s.Past[:cap(s.Past)][i].Off = 99
	}
}

// P17.3, P17.4, P1: arguments stay as they are, and results share no memory with them or with each other.
func TestMemory(t *testing.T) {
	c := console()
	events := [][]control.Event{nil, {ev(control.General, 0, 0)}, {ev(control.SetGeneral, 0, 0)}, {ev(control.Cancel, 0, 0)}, {ev(control.Undo, 0, 0)}, {ev(control.Divisional, 0, 0), ev(control.SetDivisional, 2, 0)}, {ev(control.Stop, 0, 0), ev(control.SetGeneral, 0, 1), ev(control.Undo, 0, 0)}, slices.Repeat([]control.Event{ev(control.Off, 0, 0)}, 30)}
	for i, l := range events {
		s := state()
		before := slices.Clone(l)
		out, _, e := control.Run(c, s, l)
		again, _, _ := control.Run(c, s, l)
		spoil(out)
		if e != api.OK || !sameState(s, state()) || !slices.Equal(l, before) {
			t.Errorf("%d: arguments became %v and %v, %d", i, s, l, e)
		}
		if other, _, _ := control.Run(c, s, l); !sameState(other, again) {
			t.Errorf("%d: the result became %v", i, other)
		}
		// What is drawn must not be what a memory or the past has.
		for k := range again.Drawn.Stops {
			again.Drawn.Stops[k] = 77
		}
		for _, level := range again.General {
			for _, r := range level {
				if slices.Contains(r.Stops, 77) {
					t.Errorf("%d: a memory changes with what is drawn", i)
				}
			}
		}
		for _, r := range again.Past[:cap(again.Past)] {
			if slices.Contains(r.Stops, 77) {
				t.Errorf("%d: the past changes with what is drawn", i)
			}
		}
	}
	start, _ := control.Start(c)
	start.Drawn.Stops[0] = 1
	start.General[0][0].Stops[1] = 2
	start.Divisional[0][2][0] = 3
	clean, _ := control.Start(c)
	if start.General[0][0].Stops[0] != 0 || start.General[0][1].Stops[1] != 0 || start.General[1][0].Stops[1] != 0 || start.Divisional[1][2][0] != 0 || clean.Drawn.Stops[0] != 0 {
		t.Errorf("parts of Start share memory: %v", start)
	}
}
