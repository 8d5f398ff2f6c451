package organ_test

import (
	"math"
	"slices"
	"strconv"
	"strings"
	"testing"

	"bombarde/api"
	"bombarde/organ"
)

// f returns a fraction.
func f(num, den int) api.Fraction { return api.Fraction{Num: num, Den: den} }

// compass returns a compass.
func compass(low, high int) api.Compass { return api.Compass{Low: low, High: high} }

// row returns a right rank.
func row(name string, first, pipes int) api.Rank {
	return api.Rank{Name: name, Tone: "principal", Feet: f(8, 1), First: first, Wind: slices.Repeat([]int{9}, pipes)}
}

// stopOf returns a stop with the feet 8.
func stopOf(name string, segments ...api.Segment) api.Stop {
	return api.Stop{Name: name, Feet: f(8, 1), Segments: segments}
}

// seg returns a segment.
func seg(from, to int, draws ...api.Draw) api.Segment {
	return api.Segment{From: from, To: to, Draws: draws}
}

// d returns a draw.
func d(rank, shift int) api.Draw { return api.Draw{Rank: rank, Shift: shift} }

// chapter returns the organ of the chapter.
func chapter() api.Organ {
	octave := stopOf("Octave_4", seg(36, 48, d(0, 12)))
	octave.Feet = f(4, 1)
	return api.Organ{Name: "Example", Ranks: []api.Rank{row("Open", 36, 25)}, Divisions: []api.Division{{Name: "Great", Keys: compass(36, 48), Stops: []api.Stop{stopOf("Principal_8", seg(36, 48, d(0, 0))), octave}}}}
}

// example returns an organ of three divisions; its names are the same for things of different kinds.
func example() api.Organ {
	return api.Organ{
		Name:  "Open",
		Ranks: []api.Rank{row("Open", 36, 61), row("Flute", 24, 12), row("Great", 0, 128)},
		Divisions: []api.Division{
			{Name: "Great", Keys: compass(36, 96), Stops: []api.Stop{stopOf("Open", seg(36, 60, d(0, 0), d(2, 7)), seg(61, 90, d(0, 12))), stopOf("Flute", seg(36, 96, d(1, 0))), stopOf("Great", seg(40, 50))}},
			{Name: "Pedal", Pedal: true, Keys: compass(24, 55), Stops: []api.Stop{stopOf("Open", seg(24, 55, d(0, 12), d(1, 0), d(2, 0)))}},
			{Name: "Solo", Keys: compass(60, 127)},
		},
		Couplers: []api.Coupler{{Name: "Open", From: 0, To: 1}, {Name: "Great", From: 1, To: 0, Shift: 12, Through: true}},
	}
}

// greatest returns an organ with as much of everything as there can be.
func greatest() api.Organ {
	name := func(s string, i int) string {
		return s + strings.Repeat("_", api.MaxName-len(s)-2) + strconv.Itoa(10+i)
	}
	o := api.Organ{Name: strings.Repeat("O", api.MaxName)}
	for i := range api.MaxRanks {
		o.Ranks = append(o.Ranks, row(name("Rank", i), i, api.MaxPipes))
	}
	for i := range api.MaxDivisions {
		division := api.Division{Name: name("Division", i), Keys: compass(0, api.MaxNote)}
		for k := range api.MaxStops {
			s := stopOf(name("Stop", k))
			for n := range api.MaxSegments {
				s.Segments = append(s.Segments, seg(10*n, 10*n+9))
				for m := range api.MaxDraws {
					s.Segments[n].Draws = append(s.Segments[n].Draws, d(m, n-m))
				}
			}
			division.Stops = append(division.Stops, s)
		}
		o.Divisions = append(o.Divisions, division)
	}
	for i := range api.MaxCouplers {
		o.Couplers = append(o.Couplers, api.Coupler{Name: name("Coupler", i), From: i % 8, To: (i + 1) % 8})
	}
	return o
}

// organs returns right organs.
func organs() []api.Organ {
	return []api.Organ{chapter(), example(), {Name: "A", Divisions: []api.Division{{Name: "B", Keys: compass(0, 0)}}}}
}

// copied returns an organ that shares no memory with another one.
func copied(o api.Organ) api.Organ {
	o.Ranks, o.Divisions, o.Couplers = slices.Clone(o.Ranks), slices.Clone(o.Divisions), slices.Clone(o.Couplers)
	for i := range o.Ranks {
		o.Ranks[i].Wind = slices.Clone(o.Ranks[i].Wind)
	}
	for i := range o.Divisions {
		stops := slices.Clone(o.Divisions[i].Stops)
		for k := range stops {
			stops[k].Segments = slices.Clone(stops[k].Segments)
			for n := range stops[k].Segments {
				stops[k].Segments[n].Draws = slices.Clone(stops[k].Segments[n].Draws)
			}
		}
		o.Divisions[i].Stops = stops
	}
	return o
}

// flaw is a change that makes the example wrong, and its error; the flaws of one field cannot be had together.
type flaw struct {
	field  int
	change func(o *api.Organ)
	e      api.Errno
}

// flaws has changes that make the example wrong, in the order in which the chapter names their errors.
func flaws() []flaw {
	return slices.Concat([]flaw{
		{0, func(o *api.Organ) { o.Name = "" }, api.ErrName},
		{0, func(o *api.Organ) { o.Name = "Open 8" }, api.ErrName},
	}, rankFlaws(), divisionFlaws(), []flaw{
		{30, func(o *api.Organ) { o.Couplers = append(o.Couplers, make([]api.Coupler, 39)...) }, api.ErrLimit},
		{31, func(o *api.Organ) { o.Couplers[0].Name = "4" }, api.ErrName},
		{32, func(o *api.Organ) { o.Couplers[0].To = 3 }, api.ErrUnknown},
		{33, func(o *api.Organ) { o.Couplers[0].Shift = -128 }, api.ErrRange},
		{34, func(o *api.Organ) { o.Couplers[1].Name = "Open" }, api.ErrDuplicate},
		{35, func(o *api.Organ) { o.Couplers[1].To, o.Couplers[1].Shift = 1, 0 }, api.ErrForm},
	})
}

// rankFlaws has changes that make the ranks wrong.
func rankFlaws() []flaw {
	return []flaw{
		{1, func(o *api.Organ) { o.Ranks = append(o.Ranks, make([]api.Rank, 58)...) }, api.ErrLimit},
		{2, func(o *api.Organ) { o.Ranks[0].Tone = "" }, api.ErrName},
		{2, func(o *api.Organ) { o.Ranks[0].Feet = f(0, 1) }, api.ErrRange},
		{2, func(o *api.Organ) { o.Ranks[0].Feet = f(8, 2) }, api.ErrNumber},
		{2, func(o *api.Organ) { o.Ranks[0].First = 257 }, api.ErrRange},
		{2, func(o *api.Organ) { o.Ranks[0].Wind = nil }, api.ErrEmpty},
		{2, func(o *api.Organ) { o.Ranks[0].Wind = make([]int, 129) }, api.ErrLimit},
		{2, func(o *api.Organ) { o.Ranks[0].Wind[60] = -1 }, api.ErrRange},
		{3, func(o *api.Organ) { o.Ranks[1].Name = "" }, api.ErrName},
		{3, func(o *api.Organ) { o.Ranks[1].Name = "Open" }, api.ErrDuplicate},
		{4, func(o *api.Organ) { o.Ranks[2].Wind[127] = api.MaxWind + 1 }, api.ErrRange},
		{5, func(o *api.Organ) { o.Ranks[2].Name = "Flute" }, api.ErrDuplicate},
	}
}

// divisionFlaws has changes that make the divisions wrong.
func divisionFlaws() []flaw {
	first := func(o *api.Organ) *api.Division { return &o.Divisions[0] }
	return []flaw{
		{10, func(o *api.Organ) { o.Divisions = nil }, api.ErrEmpty},
		{10, func(o *api.Organ) { o.Divisions = append(o.Divisions, make([]api.Division, 6)...) }, api.ErrLimit},
		{11, func(o *api.Organ) { first(o).Name = "Great-" }, api.ErrName},
		{12, func(o *api.Organ) { first(o).Keys = compass(-1, 96) }, api.ErrRange},
		{12, func(o *api.Organ) { first(o).Keys = compass(36, 128) }, api.ErrRange},
		{12, func(o *api.Organ) { first(o).Keys = compass(96, 36) }, api.ErrCompass},
		{12, func(o *api.Organ) { first(o).Keys = compass(math.MinInt, math.MaxInt) }, api.ErrRange},
		{13, func(o *api.Organ) { first(o).Stops = append(first(o).Stops, make([]api.Stop, 58)...) }, api.ErrLimit},
		{14, func(o *api.Organ) { first(o).Stops[0].Name = "8" }, api.ErrName},
		{15, func(o *api.Organ) { first(o).Stops[0].Feet = f(1, 129) }, api.ErrLimit},
		{16, func(o *api.Organ) { first(o).Stops[0].Segments = nil }, api.ErrEmpty},
		{16, func(o *api.Organ) { first(o).Stops[0].Segments[0].From = 35 }, api.ErrCompass},
		{16, func(o *api.Organ) { first(o).Stops[0].Segments[0].Draws[0].Rank = 3 }, api.ErrUnknown},
		{16, func(o *api.Organ) { first(o).Stops[0].Segments[0].Draws[1] = d(0, 0) }, api.ErrDuplicate},
		{16, func(o *api.Organ) { first(o).Stops[0].Segments[1].From = 60 }, api.ErrOrder},
		{17, func(o *api.Organ) { first(o).Stops[1].Name = "" }, api.ErrName},
		{17, func(o *api.Organ) { first(o).Stops[1].Name = "Open" }, api.ErrDuplicate},
		{18, func(o *api.Organ) { first(o).Stops[2].Segments[0].To = 97 }, api.ErrCompass},
		{19, func(o *api.Organ) { first(o).Stops[2].Name = "Flute" }, api.ErrDuplicate},
		{20, func(o *api.Organ) { o.Divisions[1].Name = "" }, api.ErrName},
		{20, func(o *api.Organ) { o.Divisions[1].Name = "Great" }, api.ErrDuplicate},
		{21, func(o *api.Organ) { o.Divisions[1].Keys = compass(25, 24) }, api.ErrCompass},
		{22, func(o *api.Organ) { o.Divisions[1].Stops[0].Segments[0].Draws[0].Shift = 128 }, api.ErrRange},
		{23, func(o *api.Organ) { o.Divisions[2].Name = "Pedal" }, api.ErrDuplicate},
		{24, func(o *api.Organ) { o.Divisions[2].Keys.Low = -128 }, api.ErrRange},
		{25, func(o *api.Organ) { o.Divisions[2].Stops = make([]api.Stop, 61) }, api.ErrLimit},
	}
}

// wrong is an organ that is not right, with its error.
type wrong struct {
	o api.Organ
	e api.Errno
}

// wrongs returns the example with each flaw, and with each two that can be had together.
func wrongs() []wrong {
	var l []wrong
	for i, x := range flaws() {
		o := copied(example())
		x.change(&o)
		l = append(l, wrong{o, x.e})
		for _, y := range flaws()[i+1:] {
			if y.field == x.field {
				continue
			}
			// The earlier flaw is made last, since it can replace a list that the later one changes.
			o := copied(example())
			y.change(&o)
			x.change(&o)
			l = append(l, wrong{o, x.e})
		}
	}
	return l
}

// P18.1
func TestCheck(t *testing.T) {
	for i, x := range wrongs() {
		if e := organ.Check(x.o); e != x.e {
			t.Errorf("%d: Check = %d, not %d", i, e, x.e)
		}
	}
	for i, o := range append(organs(), greatest()) {
		if e := organ.Check(o); e != api.OK {
			t.Errorf("%d: Check = %d", i, e)
		}
	}
	if e := organ.Check(api.Organ{Name: "A"}); e != api.ErrEmpty {
		t.Errorf("Check without divisions = %d", e)
	}
}

// P18.1: the limits.
func TestCheckLimits(t *testing.T) {
	for i, x := range []struct {
		change func(o *api.Organ)
		e      api.Errno
	}{
		{func(o *api.Organ) { o.Ranks = append(o.Ranks, row("Further", 36, 1)) }, api.ErrLimit},
		{func(o *api.Organ) { o.Divisions = append(o.Divisions, api.Division{Name: "Further"}) }, api.ErrLimit},
		{func(o *api.Organ) {
			o.Divisions[7].Stops = append(o.Divisions[7].Stops, stopOf("Further", seg(36, 48)))
		}, api.ErrLimit},
		{func(o *api.Organ) { o.Couplers = append(o.Couplers, api.Coupler{Name: "Further", To: 1}) }, api.ErrLimit},
		{func(o *api.Organ) { o.Name += "O" }, api.ErrName},
		{func(o *api.Organ) { o.Ranks[59].Name = o.Ranks[0].Name }, api.ErrDuplicate},
		{func(o *api.Organ) { o.Divisions[7].Name = o.Divisions[0].Name }, api.ErrDuplicate},
		{func(o *api.Organ) { o.Divisions[7].Stops[59].Name = o.Divisions[7].Stops[0].Name }, api.ErrDuplicate},
		{func(o *api.Organ) { o.Divisions[7].Stops[59].Segments[11].Draws[7].Rank = 59 }, api.OK},
		{func(o *api.Organ) { o.Divisions[7].Stops[59].Segments[11].Draws[7].Rank = 60 }, api.ErrUnknown},
	} {
		o := greatest()
		x.change(&o)
		if e := organ.Check(o); e != x.e {
			t.Errorf("%d: Check = %d, not %d", i, e, x.e)
		}
	}
}

// P18.3
func TestStatistics(t *testing.T) {
	for i, want := range []organ.Count{
		{Ranks: 1, Pipes: 25, Divisions: 1, Stops: 2, Draws: 2},
		{Ranks: 3, Pipes: 201, Divisions: 3, Stops: 4, Draws: 7, Couplers: 2},
		{Divisions: 1},
	} {
		if n, e := organ.Statistics(organs()[i]); n != want || e != api.OK {
			t.Errorf("%d: Statistics = %v, %d", i, n, e)
		}
	}
	if n, e := organ.Statistics(greatest()); n != (organ.Count{Ranks: 60, Pipes: 7680, Divisions: 8, Stops: 480, Draws: 46080, Couplers: 40}) || e != api.OK {
		t.Errorf("Statistics of the greatest organ = %v, %d", n, e)
	}
}

// P18.3: each field counts, whether organs are right or not.
func TestEqual(t *testing.T) {
	changes := []func(o *api.Organ){
		func(o *api.Organ) {},
		func(o *api.Organ) { o.Ranks[1].Name = "Flute_4" },
		func(o *api.Organ) { o.Ranks[1].Tone = "flute" },
		func(o *api.Organ) { o.Ranks[1].Feet = f(4, 1) },
		func(o *api.Organ) { o.Ranks[1].Feet.Den = 3 },
		func(o *api.Organ) { o.Ranks[1].First++ },
		func(o *api.Organ) { o.Ranks[1].Wind[11] = 8 },
		func(o *api.Organ) { o.Ranks[1].Wind = append(o.Ranks[1].Wind, 9) },
		func(o *api.Organ) { o.Ranks = o.Ranks[:2] },
		func(o *api.Organ) { slices.Reverse(o.Ranks) },
		func(o *api.Organ) { o.Divisions[2].Name = "Swell" },
		func(o *api.Organ) { o.Divisions[2].Pedal = true },
		func(o *api.Organ) { o.Divisions[2].Keys.Low = 61 },
		func(o *api.Organ) { o.Divisions[2].Keys.High = 126 },
		func(o *api.Organ) { o.Divisions[2].Stops = make([]api.Stop, 1) },
		func(o *api.Organ) { o.Divisions[0].Stops = o.Divisions[0].Stops[:2] },
		func(o *api.Organ) { o.Divisions[0].Stops[1].Name = "Flute_8" },
		func(o *api.Organ) { o.Divisions[0].Stops[1].Feet = f(16, 1) },
		func(o *api.Organ) { o.Divisions[0].Stops[1].Segments = nil },
		func(o *api.Organ) { o.Divisions[0].Stops[1].Segments[0].From++ },
		func(o *api.Organ) { o.Divisions[0].Stops[1].Segments[0].To-- },
		func(o *api.Organ) { o.Divisions[0].Stops[1].Segments[0].Draws = nil },
		func(o *api.Organ) { o.Divisions[0].Stops[1].Segments[0].Draws[0].Rank = 2 },
		func(o *api.Organ) { o.Divisions[0].Stops[1].Segments[0].Draws[0].Shift = 1 },
		func(o *api.Organ) { o.Divisions = nil },
		func(o *api.Organ) { o.Couplers[1].Name = "Sub" },
		func(o *api.Organ) { o.Couplers[1].From = 2 },
		func(o *api.Organ) { o.Couplers[1].To = 2 },
		func(o *api.Organ) { o.Couplers[1].Shift = 11 },
		func(o *api.Organ) { o.Couplers[1].Through = false },
		func(o *api.Organ) { o.Couplers = o.Couplers[:1] },
		func(o *api.Organ) { slices.Reverse(o.Couplers) },
		func(o *api.Organ) { o.Name = "" },
		func(o *api.Organ) { *o = api.Organ{} },
	}
	for i, x := range changes {
		for k, y := range changes {
			a, b := copied(example()), copied(example())
			x(&a)
			y(&b)
			if is := organ.Equal(a, b); is != (i == k) {
				t.Errorf("Equal(%d, %d) = %t", i, k, is)
			}
		}
	}
	for i, x := range wrongs() {
		if !organ.Equal(x.o, copied(x.o)) || organ.Equal(x.o, example()) {
			t.Errorf("%d: a wrong organ is not equal to itself, or is to the right one", i)
		}
	}
	empty := func(wind []int, draws []api.Draw) api.Organ {
		return api.Organ{Ranks: []api.Rank{{Wind: wind}}, Divisions: []api.Division{{Stops: []api.Stop{{Segments: []api.Segment{{Draws: draws}}}}}}}
	}
	if !organ.Equal(empty(nil, nil), empty([]int{}, []api.Draw{})) || !organ.Equal(api.Organ{}, api.Organ{Ranks: []api.Rank{}, Divisions: []api.Division{}, Couplers: []api.Coupler{}}) {
		t.Error("nil is not empty")
	}
}

// finder finds something by its name.
type finder func(o api.Organ, name string) (int, bool, api.Errno)

// finders returns the four functions that find something; that of stops looks at the first division.
func finders() []finder {
	stop := func(o api.Organ, name string) (int, bool, api.Errno) { return organ.Stop(o, 0, name) }
	return []finder{organ.Rank, organ.Division, stop, organ.Coupler}
}

// P18.4, P18.7
func TestFind(t *testing.T) {
	none := -1
	for _, x := range []struct {
		name string
		want [4]int
	}{
		{"Open", [4]int{0, none, 0, 0}}, {"Great", [4]int{2, 0, 2, 1}}, {"Flute", [4]int{1, none, 1, none}}, {"Pedal", [4]int{none, 1, none, none}}, {"Solo", [4]int{none, 2, none, none}}, {"open", [4]int{none, none, none, none}}, {"", [4]int{none, none, none, none}}, {"Gr", [4]int{none, none, none, none}}, {"Great ", [4]int{none, none, none, none}},
	} {
		for k, find := range finders() {
			index, found, e := find(example(), x.name)
			if found != (x.want[k] != none) || found && index != x.want[k] || !found && index != 0 || e != api.OK {
				t.Errorf("%d: %q is at %d, %t, %d", k, x.name, index, found, e)
			}
		}
	}
	o := greatest()
	for i := range 60 {
		if n, found, e := organ.Rank(o, o.Ranks[i].Name); n != i || !found || e != api.OK {
			t.Errorf("Rank %d is at %d, %t, %d", i, n, found, e)
		}
		if n, found, e := organ.Stop(o, i%8, o.Divisions[i%8].Stops[i].Name); n != i || !found || e != api.OK {
			t.Errorf("Stop %d is at %d, %t, %d", i, n, found, e)
		}
	}
	if n, found, e := organ.Stop(example(), 1, "Flute"); n != 0 || found || e != api.OK {
		t.Errorf("Flute is at %d, %t, %d of the pedal", n, found, e)
	}
	for _, division := range []int{-1, 3, math.MinInt, math.MaxInt} {
		if n, found, e := organ.Stop(example(), division, "Open"); n != 0 || found || e != api.ErrUnknown {
			t.Errorf("Stop of the division %d = %d, %t, %d", division, n, found, e)
		}
	}
}

// P18.2 to P18.6, P1: the error of a wrong organ comes before all others.
func TestWrongOrgans(t *testing.T) {
	registrations := []api.Registration{{}, {Stops: make([]uint64, 3)}, {Stops: make([]uint64, 3), Off: 1 << 63}}
	keys := []api.Keys{nil, make(api.Keys, 3), {{Low: 1}, {Low: 1}, {Low: 1}}}
	for i, x := range wrongs() {
		expect := func(what string, e api.Errno, zero bool) {
			t.Helper()
			if e != x.e || !zero {
				t.Errorf("%d: %s = %d, not %d", i, what, e, x.e)
			}
		}
		n, e := organ.Statistics(x.o)
		expect("Statistics", e, n == organ.Count{})
		for _, find := range finders() {
			index, found, e := find(x.o, "Open")
			expect("a finder", e, index == 0 && !found)
		}
		_, _, e = organ.Stop(x.o, 99, "Open")
		expect("Stop", e, true)
		r, e := organ.None(x.o)
		expect("None", e, isZero(r))
		r, e = organ.Full(x.o)
		expect("Full", e, isZero(r))
		for k := range 3 {
			expect("CheckRegistration", organ.CheckRegistration(x.o, registrations[k]), true)
			expect("CheckKeys", organ.CheckKeys(x.o, keys[k]), true)
			r, e = organ.With(x.o, registrations[k], 99*k, 0)
			expect("With", e, isZero(r))
			r, e = organ.Union(x.o, registrations[k], registrations[0])
			expect("Union", e, isZero(r))
			l, e := organ.Play(x.o, keys[k], api.Contact{Division: k, Key: 99 * k})
			expect("Play", e, len(l) == 0)
			contacts, e := organ.Contacts(x.o, keys[k])
			expect("Contacts", e, len(contacts) == 0)
		}
	}
}
