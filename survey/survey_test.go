package survey_test

import (
	"math"
	"math/rand"
	"reflect"
	"slices"
	"strconv"
	"testing"

	"bombarde/api"
	"bombarde/coupler"
	"bombarde/noteset"
	"bombarde/organ"
	"bombarde/pitch"
	"bombarde/stop"
	"bombarde/survey"
)

// f returns a fraction.
func f(num, den int) api.Fraction { return api.Fraction{Num: num, Den: den} }

// compass returns a compass.
func compass(low, high int) api.Compass { return api.Compass{Low: low, High: high} }

// row returns a right rank.
func row(name string, feet api.Fraction, first, pipes int) api.Rank {
	return api.Rank{Name: name, Tone: "principal", Feet: feet, First: first, Wind: make([]int, pipes)}
}

// seg returns a segment.
func seg(from, to int, draws ...api.Draw) api.Segment {
	return api.Segment{From: from, To: to, Draws: draws}
}

// d returns a draw.
func d(rank, shift int) api.Draw { return api.Draw{Rank: rank, Shift: shift} }

// stopOf returns a stop.
func stopOf(name string, feet api.Fraction, segments ...api.Segment) api.Stop {
	return api.Stop{Name: name, Feet: feet, Segments: segments}
}

// notes returns a set of notes.
func notes(l ...int) api.Notes {
	set, _ := noteset.Of(l)
	return set
}

// span returns the set of the notes of a compass.
func span(low, high int) api.Notes {
	set, _ := noteset.Range(compass(low, high))
	return set
}

// pipes returns some pipes of a rank, from one number to another one.
func pipes(rank, from, to int) []api.Pipe {
	var l []api.Pipe
	for n := from; n <= to; n++ {
		l = append(l, api.Pipe{Rank: rank, Number: n})
	}
	return l
}

// unison, octave and fifteenth are stops of the chapter's examples.
func unison() api.Stop    { return stopOf("Principal", f(8, 1), seg(36, 48, d(0, 0))) }
func octave() api.Stop    { return stopOf("Octave", f(4, 1), seg(36, 48, d(0, 12))) }
func fifteenth() api.Stop { return stopOf("Fifteenth", f(2, 1), seg(36, 48, d(0, 24))) }

// chapter returns the organ of the chapter's examples with some stops.
func chapter(stops ...api.Stop) api.Organ {
	great := api.Division{Name: "Great", Keys: compass(36, 48), Stops: stops}
	return api.Organ{Name: "Example", Ranks: []api.Rank{row("Open", f(8, 1), 36, 25)}, Divisions: []api.Division{great}}
}

// holes returns an organ with keys of no segment, segments without draws, draws without a pipe (alone, and beside others), pipes that several stops, or several keys of one stop, draw, and divisions without pipes.
func holes() api.Organ {
	return api.Organ{
		Name:  "Holes",
		Ranks: []api.Rank{row("Open", f(8, 1), 36, 25), row("Quint", f(8, 3), 40, 20), row("Far", f(8, 1), -256, 3), row("One", f(16, 1), 60, 1)},
		Divisions: []api.Division{
			{Name: "Great", Keys: compass(36, 60), Stops: []api.Stop{
				stopOf("A", f(8, 1), seg(36, 40, d(0, 0), d(1, 0)), seg(42, 45), seg(46, 60, d(0, 12), d(1, -20))),
				stopOf("B", f(8, 3), seg(36, 36, d(1, 4)), seg(37, 37, d(1, 3)), seg(38, 60, d(0, 19))),
				stopOf("C", f(4, 1), seg(36, 60)),
			}},
			{Name: "Solo", Keys: compass(90, 100), Stops: []api.Stop{stopOf("A", f(16, 1), seg(90, 100, d(2, 0), d(0, 0)))}},
			{Name: "Echo", Keys: compass(0, 127)},
			{Name: "Pedal", Pedal: true, Keys: compass(24, 36), Stops: []api.Stop{stopOf("A", f(16, 1), seg(24, 36, d(0, 12))), stopOf("B", f(16, 1), seg(24, 24, d(3, 36)))}},
		},
		Couplers: []api.Coupler{
			{Name: "A", From: 0, To: 1, Shift: 29}, {Name: "B", From: 0, To: 1, Shift: 30}, {Name: "C", From: 0, To: 1, Shift: 64}, {Name: "D", From: 0, To: 1, Shift: 65},
			{Name: "E", From: 1, To: 0}, {Name: "F", From: 2, To: 2, Shift: 127}, {Name: "G", From: 2, To: 2, Shift: -127}, {Name: "H", From: 3, To: 0, Shift: -1}, {Name: "I", From: 3, To: 0},
		},
	}
}

// randomOrgan returns a right organ of few divisions, most of whose stops have holes.
func randomOrgan(random *rand.Rand) api.Organ {
	usual := pitch.Usual()
	o := api.Organ{Name: "Random"}
	for i := range random.Intn(4) {
		o.Ranks = append(o.Ranks, row("R"+strconv.Itoa(i), usual[random.Intn(len(usual))], random.Intn(60), 1+random.Intn(30)))
	}
	for i := range 1 + random.Intn(3) {
		low := random.Intn(40)
		division := api.Division{Name: "D" + strconv.Itoa(i), Keys: compass(low, low+random.Intn(40))}
		for k := range random.Intn(4) {
			division.Stops = append(division.Stops, randomStop(random, "S"+strconv.Itoa(k), o.Ranks, division.Keys))
		}
		o.Divisions = append(o.Divisions, division)
	}
	for i := range random.Intn(6) {
		c := api.Coupler{Name: "C" + strconv.Itoa(i), From: random.Intn(len(o.Divisions)), To: random.Intn(len(o.Divisions)), Shift: 1 + random.Intn(60)}
		if random.Intn(2) == 0 {
			c.Shift = -c.Shift
		}
		o.Couplers = append(o.Couplers, c)
	}
	return o
}

// randomStop returns a stop whose first draws often agree with its feet.
func randomStop(random *rand.Rand, name string, ranks []api.Rank, keys api.Compass) api.Stop {
	usual := pitch.Usual()
	s := stopOf(name, usual[random.Intn(len(usual))])
	from := keys.Low + random.Intn(2)*random.Intn(keys.High-keys.Low+1)
	for len(s.Segments) == 0 || from <= keys.High && len(s.Segments) < 4 {
		segment := seg(from, min(keys.High, from+random.Intn(30)))
		for range random.Intn(4) * min(1, len(ranks)) {
			draw := d(random.Intn(len(ranks)), random.Intn(60)-30)
			if shift, _ := pitch.Shift(s.Feet, ranks[draw.Rank].Feet); random.Intn(2) == 0 {
				draw.Shift = shift
			}
			if !slices.Contains(segment.Draws, draw) {
				segment.Draws = append(segment.Draws, draw)
			}
		}
		s.Segments = append(s.Segments, segment)
		from = segment.To + 1 + random.Intn(2)*random.Intn(4)
	}
	return s
}

// organs returns right organs.
func organs() []api.Organ {
	l := []api.Organ{
		chapter(), chapter(unison()), chapter(unison(), octave()), chapter(fifteenth()), holes(),
		{Name: "A", Divisions: []api.Division{{Name: "B", Keys: compass(0, 0)}}},
	}
	random := rand.New(rand.NewSource(21))
	for range 400 {
		l = append(l, randomOrgan(random))
	}
	return l
}

// drawn is what a key of a stop draws: the number of draws, and the pipes that they have.
type drawn struct {
	draws int
	pipes []api.Pipe
}

// touch returns what a key of a stop draws.
func touch(o api.Organ, s api.Stop, key int) drawn {
	var t drawn
	for _, segment := range s.Segments {
		if key < segment.From || key > segment.To {
			continue
		}
		for _, draw := range segment.Draws {
			t.draws++
			if n := key + draw.Shift - o.Ranks[draw.Rank].First; n >= 0 && n < len(o.Ranks[draw.Rank].Wind) {
				t.pipes = append(t.pipes, api.Pipe{Rank: draw.Rank, Number: n})
			}
		}
	}
	return t
}

// gapsThat returns the stops with their keys for which a function holds.
func gapsThat(o api.Organ, holds func(t drawn) bool) []survey.Gap {
	var l []survey.Gap
	for i, division := range o.Divisions {
		for k, s := range division.Stops {
			var keys []int
			for key := division.Keys.Low; key <= division.Keys.High; key++ {
				if holds(touch(o, s, key)) {
					keys = append(keys, key)
				}
			}
			if len(keys) > 0 {
				l = append(l, survey.Gap{Division: i, Stop: k, Keys: notes(keys...)})
			}
		}
	}
	return l
}

// usersOf returns the number of stops that draw a pipe.
func usersOf(o api.Organ, p api.Pipe) int {
	n := 0
	for _, division := range o.Divisions {
		for _, s := range division.Stops {
			used, _ := stop.Used(stop.Place{Ranks: o.Ranks, Keys: division.Keys}, s)
			if slices.Contains(used, p) {
				n++
			}
		}
	}
	return n
}

// pipesThat returns the pipes of an organ for whose number of users a function holds.
func pipesThat(o api.Organ, holds func(users int) bool) []api.Pipe {
	var l []api.Pipe
	for i, r := range o.Ranks {
		for n := range r.Wind {
			if p := (api.Pipe{Rank: i, Number: n}); holds(usersOf(o, p)) {
				l = append(l, p)
			}
		}
	}
	return l
}

// expect compares what a function returns with what is wanted; no list is equal to an empty one.
func expect[T any](t *testing.T, what string, o api.Organ, got []T, e api.Errno, want []T) {
	t.Helper()
	if e != api.OK || len(got)+len(want) > 0 && !reflect.DeepEqual(got, want) {
		t.Errorf("%s of %v = %v, %d, not %v", what, o, got, e, want)
	}
}

// P21.1: the examples.
func TestKeysOfExamples(t *testing.T) {
	for _, c := range []struct {
		o          api.Organ
		gaps, mute []survey.Gap
	}{
		{chapter(), nil, nil},
		{chapter(unison(), octave()), nil, nil},
		{chapter(fifteenth()), []survey.Gap{{Keys: span(37, 48)}}, []survey.Gap{{Keys: span(37, 48)}}},
		{chapter(octave(), fifteenth()), []survey.Gap{{Stop: 1, Keys: span(37, 48)}}, []survey.Gap{{Stop: 1, Keys: span(37, 48)}}},
		{holes(),
			[]survey.Gap{{Keys: noteset.Union(span(36, 39), span(46, 60))}, {Stop: 1, Keys: span(42, 60)}, {Division: 1, Keys: span(90, 100)}},
			[]survey.Gap{
				{Keys: noteset.Union(span(41, 45), span(49, 59))}, {Stop: 1, Keys: span(42, 60)}, {Stop: 2, Keys: span(36, 60)},
				{Division: 1, Keys: span(90, 100)}, {Division: 3, Stop: 1, Keys: span(25, 36)},
			}},
	} {
		gaps, e := survey.Gaps(c.o)
		expect(t, "Gaps", c.o, gaps, e, c.gaps)
		mute, e := survey.Mute(c.o)
		expect(t, "Mute", c.o, mute, e, c.mute)
	}
}

// P21.1
func TestGapsAndMute(t *testing.T) {
	for _, o := range organs() {
		gaps, e := survey.Gaps(o)
		expect(t, "Gaps", o, gaps, e, gapsThat(o, func(t drawn) bool { return len(t.pipes) < t.draws }))
		mute, e := survey.Mute(o)
		expect(t, "Mute", o, mute, e, gapsThat(o, func(t drawn) bool { return len(t.pipes) == 0 }))
	}
}

// P21.2: the examples.
func TestPipesOfExamples(t *testing.T) {
	twice := chapter(stopOf("A", f(8, 1), seg(36, 36, d(0, 0)), seg(37, 48, d(0, -1), d(0, 0))))
	for _, c := range []struct {
		o              api.Organ
		unused, shared []api.Pipe
	}{
		{chapter(), pipes(0, 0, 24), nil},
		{chapter(unison()), pipes(0, 13, 24), nil},
		{chapter(unison(), octave()), nil, pipes(0, 12, 12)},
		{chapter(unison(), octave(), fifteenth()), nil, []api.Pipe{{Number: 12}, {Number: 24}}},
		{chapter(unison(), stopOf("A", f(8, 1), seg(36, 48, d(0, 0)))), pipes(0, 13, 24), pipes(0, 0, 12)},
		{twice, pipes(0, 13, 24), nil},
		{holes(),
			slices.Concat(pipes(0, 13, 20), pipes(1, 1, 19), pipes(2, 0, 2)),
			slices.Concat(pipes(0, 0, 4), pipes(0, 22, 24), pipes(1, 0, 0))},
	} {
		unused, e := survey.Unused(c.o)
		expect(t, "Unused", c.o, unused, e, c.unused)
		shared, e := survey.Shared(c.o)
		expect(t, "Shared", c.o, shared, e, c.shared)
	}
}

// P21.2
func TestUnusedAndShared(t *testing.T) {
	for _, o := range organs() {
		unused, e := survey.Unused(o)
		expect(t, "Unused", o, unused, e, pipesThat(o, func(users int) bool { return users == 0 }))
		shared, e := survey.Shared(o)
		expect(t, "Shared", o, shared, e, pipesThat(o, func(users int) bool { return users >= 2 }))
	}
}

// isMispitched reports whether a segment begins with another shift than that of the feet.
func isMispitched(o api.Organ, s api.Stop) bool {
	return slices.ContainsFunc(s.Segments, func(segment api.Segment) bool {
		if len(segment.Draws) == 0 {
			return false
		}
		shift, _ := pitch.Shift(s.Feet, o.Ranks[segment.Draws[0].Rank].Feet)
		return segment.Draws[0].Shift != shift
	})
}

// mispitched returns the stops that are mispitched.
func mispitched(o api.Organ) []survey.Found {
	var l []survey.Found
	for i, division := range o.Divisions {
		for k, s := range division.Stops {
			if isMispitched(o, s) {
				l = append(l, survey.Found{Division: i, Stop: k})
			}
		}
	}
	return l
}

// P21.3
func TestMispitched(t *testing.T) {
	quint := func(segments ...api.Segment) api.Stop { return stopOf("Quint", f(8, 3), segments...) }
	for _, c := range []struct {
		s  api.Stop
		is bool
	}{
		{quint(seg(36, 41, d(0, 19))), false}, {quint(seg(36, 41, d(0, 20))), true}, {quint(seg(36, 41, d(0, 7))), true}, {quint(seg(36, 48)), false},
		{quint(seg(36, 40, d(0, 19), d(0, 24)), seg(41, 41), seg(42, 48, d(0, 19), d(0, 12))), false},
		{quint(seg(36, 40, d(0, 19)), seg(42, 48, d(0, 12), d(0, 19))), true}, {quint(seg(36, 40), seg(41, 41, d(0, 12))), true},
	} {
		l, e := survey.Mispitched(chapter(octave(), c.s))
		var want []survey.Found
		if c.is {
			want = []survey.Found{{Stop: 1}}
		}
		expect(t, "Mispitched", chapter(c.s), l, e, want)
	}
	l, e := survey.Mispitched(holes())
	expect(t, "Mispitched", holes(), l, e, []survey.Found{{0, 0}, {0, 1}, {1, 0}, {3, 0}, {3, 1}})
	for _, o := range organs() {
		l, e := survey.Mispitched(o)
		expect(t, "Mispitched", o, l, e, mispitched(o))
	}
}

// idle returns the couplers that take no key anywhere.
func idle(o api.Organ) []int {
	var l []int
	for i, c := range o.Couplers {
		takes, to := false, o.Divisions[c.To].Keys
		for key := o.Divisions[c.From].Keys.Low; key <= o.Divisions[c.From].Keys.High; key++ {
			takes = takes || to.Low <= key+c.Shift && key+c.Shift <= to.High
		}
		if !takes {
			l = append(l, i)
		}
	}
	return l
}

// bare returns the divisions whose keys have no pipe.
func bare(o api.Organ) []int {
	var l []int
	for i, division := range o.Divisions {
		n := 0
		for _, s := range division.Stops {
			for key := division.Keys.Low; key <= division.Keys.High; key++ {
				n += len(touch(o, s, key).pipes)
			}
		}
		if n == 0 {
			l = append(l, i)
		}
	}
	return l
}

// P21.3
func TestIdleAndBare(t *testing.T) {
	l, e := survey.Idle(holes())
	expect(t, "Idle", holes(), l, e, []int{0, 3, 4, 7})
	l, e = survey.Bare(holes())
	expect(t, "Bare", holes(), l, e, []int{1, 2})
	l, e = survey.Bare(chapter())
	expect(t, "Bare", chapter(), l, e, []int{0})
	l, e = survey.Bare(chapter(fifteenth()))
	expect(t, "Bare", chapter(fifteenth()), l, e, nil)
	l, e = survey.Bare(chapter(stopOf("A", f(8, 1), seg(36, 48)), stopOf("B", f(1, 1), seg(36, 48, d(0, 36)))))
	expect(t, "Bare", chapter(), l, e, []int{0})
	for _, o := range organs() {
		l, e := survey.Idle(o)
		expect(t, "Idle", o, l, e, idle(o))
		l, e = survey.Bare(o)
		expect(t, "Bare", o, l, e, bare(o))
	}
}

// P21.4
func TestClean(t *testing.T) {
	clean := func(change func(o *api.Organ)) api.Organ {
		o := chapter(unison(), octave())
		o.Couplers = []api.Coupler{{Name: "Super", Shift: 12}}
		change(&o)
		return o
	}
	great := func(o *api.Organ) *api.Division { return &o.Divisions[0] }
	for i, c := range []struct {
		o  api.Organ
		is bool
	}{
		{clean(func(o *api.Organ) {}), true},
		{clean(func(o *api.Organ) { o.Couplers = nil }), true},
		{clean(func(o *api.Organ) { great(o).Stops = append(great(o).Stops, octave()); great(o).Stops[2].Name = "A" }), true},
		{clean(func(o *api.Organ) { great(o).Stops[1].Segments[0].Draws = []api.Draw{d(0, 12), d(0, 13)} }), false},
		{clean(func(o *api.Organ) { great(o).Stops[1].Segments[0].To = 47; o.Ranks[0].Wind = make([]int, 24) }), false},
		{clean(func(o *api.Organ) { o.Ranks[0].Wind = make([]int, 26) }), false},
		{clean(func(o *api.Organ) { great(o).Stops[0].Feet, great(o).Stops[1].Feet = f(4, 1), f(4, 1) }), false},
		{clean(func(o *api.Organ) { o.Couplers[0].Shift = 13 }), false},
		{clean(func(o *api.Organ) { o.Divisions = append(o.Divisions, api.Division{Name: "Echo", Keys: compass(0, 1)}) }), false},
		{clean(func(o *api.Organ) {
			o.Divisions = append(o.Divisions, api.Division{Name: "Echo", Keys: compass(48, 48), Stops: []api.Stop{stopOf("Open", f(8, 1), seg(48, 48, d(0, 0)))}})
		}), true},
		{holes(), false}, {chapter(), false},
	} {
		if is, e := survey.Clean(c.o); is != c.is || e != api.OK {
			t.Errorf("%d: Clean = %t, %d", i, is, e)
		}
	}
	for _, o := range organs() {
		gaps, _ := survey.Gaps(o)
		mute, _ := survey.Mute(o)
		unused, _ := survey.Unused(o)
		want := len(gaps)+len(mute)+len(unused)+len(mispitched(o))+len(idle(o))+len(bare(o)) == 0
		if is, e := survey.Clean(o); is != want || e != api.OK {
			t.Errorf("Clean of %v = %t, %d", o, is, e)
		}
	}
}

// P21.5: stops of bare divisions are mute, no stop has a pipe that is unused, and shared pipes are used.
func TestConsequences(t *testing.T) {
	for _, o := range organs() {
		mute, _ := survey.Mute(o)
		l, _ := survey.Bare(o)
		for _, i := range l {
			keys := o.Divisions[i].Keys
			for k := range o.Divisions[i].Stops {
				if !slices.Contains(mute, survey.Gap{Division: i, Stop: k, Keys: span(keys.Low, keys.High)}) {
					t.Errorf("the stop %d of the bare division %d of %v is not mute", k, i, o)
				}
			}
		}
		unused, _ := survey.Unused(o)
		shared, _ := survey.Shared(o)
		for _, p := range unused {
			if slices.Contains(shared, p) {
				t.Errorf("the pipe %v of %v is unused and shared", p, o)
			}
			for _, division := range o.Divisions {
				for _, s := range division.Stops {
					if keys, e := stop.Keys(stop.Place{Ranks: o.Ranks, Keys: division.Keys}, s, p); e != api.OK || keys != (api.Notes{}) {
						t.Errorf("the unused pipe %v of %v speaks for %v, %d", p, o, keys, e)
					}
				}
			}
		}
	}
}

// P21.5: couplers that are idle take nothing anywhere, also together with all others, and stops whose keys all have draws with pipes are not mute.
func TestIdleCouplersAndFullStops(t *testing.T) {
	for _, o := range organs() {
		l, _ := survey.Idle(o)
		a := coupler.Action{Couplers: o.Couplers, Drawn: 1<<len(o.Couplers) - 1}
		for _, division := range o.Divisions {
			a.Divisions = append(a.Divisions, division.Keys)
		}
		idle, e := coupler.Idle(a)
		expect(t, "Idle", o, l, e, idle)
		gaps, _ := survey.Gaps(o)
		mute, _ := survey.Mute(o)
		for i, division := range o.Divisions {
			for k, s := range division.Stops {
				full := true
				for key := division.Keys.Low; key <= division.Keys.High; key++ {
					full = full && len(stop.Draws(s, key)) > 0
				}
				of := func(g survey.Gap) bool { return g.Division == i && g.Stop == k }
				if full && !slices.ContainsFunc(gaps, of) && slices.ContainsFunc(mute, of) {
					t.Errorf("the stop %d of the division %d of %v is mute", k, i, o)
				}
			}
		}
	}
}

// wrongs returns organs that are not right.
func wrongs() []api.Organ {
	var l []api.Organ
	for _, change := range []func(o *api.Organ){
		func(o *api.Organ) { o.Name = "" },
		func(o *api.Organ) { o.Ranks = make([]api.Rank, 61) },
		func(o *api.Organ) { o.Ranks[1].Name = "Open" },
		func(o *api.Organ) { o.Ranks[1].Wind = nil },
		func(o *api.Organ) { o.Divisions = nil },
		func(o *api.Organ) { o.Divisions = make([]api.Division, 9) },
		func(o *api.Organ) { o.Divisions[0].Keys = compass(60, 36) },
		func(o *api.Organ) { o.Divisions[2].Keys = compass(math.MinInt, math.MaxInt) },
		func(o *api.Organ) { o.Divisions[0].Stops = make([]api.Stop, 61) },
		func(o *api.Organ) { o.Divisions[0].Stops[0].Feet = api.Fraction{} },
		func(o *api.Organ) { o.Divisions[0].Stops[0].Segments[0].Draws[0].Rank = 4 },
		func(o *api.Organ) { o.Divisions[0].Stops[0].Segments[0].Draws[0].Shift = math.MinInt },
		func(o *api.Organ) { o.Divisions[0].Stops[0].Segments[0].To = math.MaxInt },
		func(o *api.Organ) { o.Couplers[0].To = -1 },
		func(o *api.Organ) { o.Couplers[8].Shift = 128 },
	} {
		o := holes()
		change(&o)
		l = append(l, o)
	}
	return append(l, api.Organ{})
}

// P1, P21.1 to P21.4: all functions return the error of the organ.
func TestWrongOrgans(t *testing.T) {
	for i, o := range wrongs() {
		want := organ.Check(o)
		if want == api.OK {
			t.Errorf("%d: the organ is right", i)
		}
		gaps, e1 := survey.Gaps(o)
		mute, e2 := survey.Mute(o)
		unused, e3 := survey.Unused(o)
		shared, e4 := survey.Shared(o)
		found, e5 := survey.Mispitched(o)
		idle, e6 := survey.Idle(o)
		bare, e7 := survey.Bare(o)
		is, e8 := survey.Clean(o)
		if len(gaps)+len(mute)+len(unused)+len(shared)+len(found)+len(idle)+len(bare) > 0 || is {
			t.Errorf("%d: there are results of a wrong organ", i)
		}
		if l := []api.Errno{e1, e2, e3, e4, e5, e6, e7, e8}; !slices.Equal(l, slices.Repeat([]api.Errno{want}, 8)) {
			t.Errorf("%d: the errors are %v, not %d", i, l, want)
		}
	}
}

// greatest returns an organ with as much of everything as there can be.
func greatest() api.Organ {
	o := api.Organ{Name: "O"}
	for i := range api.MaxRanks {
		o.Ranks = append(o.Ranks, row("R"+strconv.Itoa(i), f(8, 1), i, api.MaxPipes))
	}
	for i := range api.MaxDivisions {
		division := api.Division{Name: "D" + strconv.Itoa(i), Keys: compass(0, api.MaxNote)}
		for k := range api.MaxStops {
			s := stopOf("S"+strconv.Itoa(k), f(8, 1))
			for n := range api.MaxSegments {
				s.Segments = append(s.Segments, seg(10*n, 10*n+9))
				for m := range api.MaxDraws {
					s.Segments[n].Draws = append(s.Segments[n].Draws, d((i+k+m)%api.MaxRanks, n-m))
				}
			}
			division.Stops = append(division.Stops, s)
		}
		o.Divisions = append(o.Divisions, division)
	}
	for i := range api.MaxCouplers {
		o.Couplers = append(o.Couplers, api.Coupler{Name: "C" + strconv.Itoa(i), From: i % 8, To: (i + 1) % 8})
	}
	return o
}

// P21.1 to P21.4: the greatest organ.
func TestGreatest(t *testing.T) {
	o := greatest()
	gaps, e := survey.Gaps(o)
	expect(t, "Gaps", api.Organ{}, gaps, e, gapsThat(o, func(t drawn) bool { return len(t.pipes) < t.draws }))
	mute, e := survey.Mute(o)
	expect(t, "Mute", api.Organ{}, mute, e, gapsThat(o, func(t drawn) bool { return len(t.pipes) == 0 }))
	l, e := survey.Mispitched(o)
	expect(t, "Mispitched", api.Organ{}, l, e, mispitched(o))
	unused, e := survey.Unused(o)
	shared, _ := survey.Shared(o)
	if n := len(unused) + len(shared); e != api.OK || n == 0 || n > api.MaxRanks*api.MaxPipes {
		t.Errorf("%d pipes are unused, %d are shared, %d", len(unused), len(shared), e)
	}
	if is, e := survey.Clean(o); is || e != api.OK {
		t.Errorf("Clean = %t, %d", is, e)
	}
}

// P21.1 to P21.4: organs are not modified, and results share no memory with each other.
func TestMemory(t *testing.T) {
	o := holes()
	for range 2 {
		gaps, _ := survey.Gaps(o)
		mute, _ := survey.Mute(o)
		unused, _ := survey.Unused(o)
		shared, _ := survey.Shared(o)
		found, _ := survey.Mispitched(o)
		idle, _ := survey.Idle(o)
		bare, _ := survey.Bare(o)
		survey.Clean(o)
		if len(gaps) != 3 || len(mute) != 5 || len(unused) != 30 || len(shared) != 9 || len(found) != 5 || len(idle) != 4 || len(bare) != 2 {
			t.Errorf("results have %d, %d, %d, %d, %d, %d, %d parts", len(gaps), len(mute), len(unused), len(shared), len(found), len(idle), len(bare))
		}
		clear(gaps)
		clear(mute)
		clear(unused)
		clear(shared)
		clear(found)
		clear(idle)
		clear(bare)
		if !organ.Equal(o, holes()) {
			t.Error("the organ is changed")
		}
	}
}
