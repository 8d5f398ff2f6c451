package coupler_test

import (
	"math"
	"math/rand"
	"slices"
	"strconv"
	"strings"
	"testing"

	"bombarde/api"
	"bombarde/coupler"
)

// at returns a contact.
func at(division, key int) api.Contact { return api.Contact{Division: division, Key: key} }

// c returns a coupler.
func c(name string, from, to, shift int, through bool) api.Coupler {
	return api.Coupler{Name: name, From: from, To: to, Shift: shift, Through: through}
}

// compass returns a compass.
func compass(low, high int) api.Compass { return api.Compass{Low: low, High: high} }

// example returns an action of three divisions and four couplers, of which two are drawn.
func example() coupler.Action {
	return coupler.Action{
		Divisions: []api.Compass{compass(36, 60), compass(36, 60), compass(24, 55)},
		Couplers:  []api.Coupler{c("Super", 1, 1, 12, true), c("One_two", 0, 1, 0, false), c("Pedal", 2, 0, 0, true), c("Sub", 1, 1, -12, false)},
		Drawn:     3,
	}
}

// copied returns an action that shares no memory with another one.
func copied(a coupler.Action) coupler.Action {
	return coupler.Action{Divisions: slices.Clone(a.Divisions), Couplers: slices.Clone(a.Couplers), Drawn: a.Drawn}
}

// some returns right actions.
func some() []coupler.Action {
	l := []coupler.Action{{}, {Divisions: []api.Compass{compass(0, 127)}}, example(), full()}
	random := rand.New(rand.NewSource(16))
	for range 60 {
		var a coupler.Action
		for range 1 + random.Intn(8) {
			low := random.Intn(128)
			a.Divisions = append(a.Divisions, compass(low, low+random.Intn(min(30, 128-low))))
		}
		n := len(a.Divisions)
		for i := range random.Intn(12) {
			x := c("C"+strconv.Itoa(i), random.Intn(n), random.Intn(n), random.Intn(49)-24, random.Intn(2) == 0)
			if x.From != x.To || x.Shift != 0 {
				a.Couplers = append(a.Couplers, x)
			}
		}
		a.Drawn = random.Uint64() & (1<<len(a.Couplers) - 1)
		l = append(l, a)
	}
	return l
}

// full returns an action with as many divisions and couplers as there can be.
func full() coupler.Action {
	var a coupler.Action
	for range 8 {
		a.Divisions = append(a.Divisions, compass(0, 127))
	}
	for i := range 40 {
		a.Couplers = append(a.Couplers, c("C"+strconv.Itoa(i), i%8, (i*3+1)%8, i*11%255-127, i%3 > 0))
	}
	a.Drawn = 1<<40 - 1
	return a
}

// flaw is a change that makes the example wrong, and its error; the flaws of one field cannot be had together.
type flaw struct {
	field  int
	change func(a *coupler.Action)
	e      api.Errno
}

// flaws has changes that make the example wrong, in the order in which the chapter names their errors.
func flaws() []flaw {
	on := func(i int, change func(x *api.Coupler)) func(a *coupler.Action) {
		return func(a *coupler.Action) { change(&a.Couplers[i]) }
	}
	return []flaw{
		{0, func(a *coupler.Action) { a.Divisions = append(a.Divisions, make([]api.Compass, 6)...) }, api.ErrLimit},
		{1, func(a *coupler.Action) { a.Couplers = append(a.Couplers, make([]api.Coupler, 37)...) }, api.ErrLimit},
		{2, func(a *coupler.Action) { a.Divisions[0] = compass(-1, 60) }, api.ErrCompass},
		{2, func(a *coupler.Action) { a.Divisions[1] = compass(61, 60) }, api.ErrCompass},
		{2, func(a *coupler.Action) { a.Divisions[2] = compass(60, 128) }, api.ErrCompass},
		{2, func(a *coupler.Action) { a.Divisions[2] = compass(math.MinInt, math.MaxInt) }, api.ErrCompass},
		{3, on(0, func(x *api.Coupler) { x.Name = "" }), api.ErrName},
		{3, on(0, func(x *api.Coupler) { x.Name = "4_Octave" }), api.ErrName},
		{4, on(0, func(x *api.Coupler) { x.From = 3 }), api.ErrUnknown},
		{4, on(0, func(x *api.Coupler) { x.From = -1 }), api.ErrUnknown},
		{5, on(0, func(x *api.Coupler) { x.To = math.MaxInt }), api.ErrUnknown},
		{5, on(0, func(x *api.Coupler) { x.To = math.MinInt }), api.ErrUnknown},
		{6, on(0, func(x *api.Coupler) { x.Shift = 128 }), api.ErrRange},
		{6, on(0, func(x *api.Coupler) { x.Shift = -128 }), api.ErrRange},
		{6, on(0, func(x *api.Coupler) { x.Shift = math.MinInt }), api.ErrRange},
		{6, on(0, func(x *api.Coupler) { x.Shift = 0 }), api.ErrForm},
		{7, on(1, func(x *api.Coupler) { x.Name = strings.Repeat("a", 33) }), api.ErrName},
		{7, on(1, func(x *api.Coupler) { x.Name = "Super" }), api.ErrDuplicate},
		{8, on(1, func(x *api.Coupler) { x.From = math.MinInt }), api.ErrUnknown},
		{9, on(1, func(x *api.Coupler) { x.To = 3 }), api.ErrUnknown},
		{10, on(1, func(x *api.Coupler) { x.Shift = math.MaxInt }), api.ErrRange},
		{11, on(1, func(x *api.Coupler) { x.From, x.To = 1, 1 }), api.ErrForm},
		{12, on(3, func(x *api.Coupler) { x.Name = "Pedal" }), api.ErrDuplicate},
	}
}

// wrong is an action that is not right, with its error.
type wrong struct {
	a coupler.Action
	e api.Errno
}

// wrongs returns the example with each flaw, and with each two that can be had together.
func wrongs() []wrong {
	var l []wrong
	for i, x := range flaws() {
		a := copied(example())
		x.change(&a)
		l = append(l, wrong{a, x.e})
		for _, y := range flaws()[i+1:] {
			// The same division twice is a flaw of three fields together.
			if y.field == x.field || x.e == api.ErrForm && y.field < 7 || y.e == api.ErrForm {
				continue
			}
			b := copied(a)
			y.change(&b)
			l = append(l, wrong{b, x.e})
		}
	}
	return l
}

// P16.1
func TestCheck(t *testing.T) {
	for i, x := range wrongs() {
		if e := coupler.Check(x.a.Divisions, x.a.Couplers); e != x.e {
			t.Errorf("%d: Check = %d, not %d", i, e, x.e)
		}
		for _, drawn := range []uint64{0, math.MaxUint64} {
			x.a.Drawn = drawn
			if e := coupler.Right(x.a); e != x.e {
				t.Errorf("%d: Right = %d, not %d", i, e, x.e)
			}
		}
	}
	for i, a := range some() {
		if e := coupler.Check(a.Divisions, a.Couplers); e != api.OK {
			t.Errorf("%d: Check = %d", i, e)
		}
		if e := coupler.Right(a); e != api.OK {
			t.Errorf("%d: Right = %d", i, e)
		}
		for bit := len(a.Couplers); bit < 64; bit++ {
			a.Drawn = 1 << bit
			if e := coupler.Right(a); e != api.ErrRange {
				t.Errorf("%d: Right with the bit %d = %d", i, bit, e)
			}
		}
	}
}

// P16.1: the ends of what is right, and the order of the errors of one coupler.
func TestCheckEnds(t *testing.T) {
	two := []api.Compass{compass(0, 0), compass(127, 127)}
	name := strings.Repeat("a", 32)
	nine := make([]api.Compass, 9)
	for _, x := range []struct {
		divisions []api.Compass
		l         []api.Coupler
		e         api.Errno
	}{
		{nil, nil, api.OK}, {nine[:8], nil, api.OK}, {nine, nil, api.ErrLimit}, {nine, make([]api.Coupler, 41), api.ErrLimit}, {nine[:8], full().Couplers, api.OK}, {nine[:8], append(full().Couplers, c("D", 0, 1, 0, true)), api.ErrLimit},
		{two, []api.Coupler{c(name, 0, 1, 127, true), c("b", 0, 1, -127, false), c("c", 1, 0, 0, true), c("d", 1, 1, 1, false), c("e", 0, 0, -1, true)}, api.OK},
		{two, []api.Coupler{c("a", 0, 1, 3, true), c("A", 0, 1, 3, true)}, api.OK}, {two, []api.Coupler{c("a", 0, 1, 3, true), c("b", 0, 1, 3, true), c("a", 5, 1, 999, true)}, api.ErrDuplicate},
		{two, []api.Coupler{c("a", 2, 2, 999, true)}, api.ErrUnknown}, {two, []api.Coupler{c("a", 1, 1, 999, true)}, api.ErrRange}, {two, []api.Coupler{c("a", 1, 1, 0, true)}, api.ErrForm}, {two, []api.Coupler{c("a", -1, -1, 0, true)}, api.ErrUnknown},
		{nil, []api.Coupler{c("a", 0, 0, 1, true)}, api.ErrUnknown}, {nil, []api.Coupler{c("_", 0, 0, 1, true)}, api.ErrName},
	} {
		if e := coupler.Check(x.divisions, x.l); e != x.e {
			t.Errorf("Check(%v, %v) = %d, not %d", x.divisions, x.l, e, x.e)
		}
	}
}
