package stop_test

import (
	"math"
	"math/rand"
	"slices"
	"strings"
	"testing"

	"bombarde/api"
	"bombarde/pitch"
	"bombarde/stop"
)

// f returns a fraction.
func f(num, den int) api.Fraction { return api.Fraction{Num: num, Den: den} }

// row returns a right rank.
func row(name string, feet api.Fraction, first, pipes int) api.Rank {
	return api.Rank{Name: name, Tone: "principal", Feet: feet, First: first, Wind: make([]int, pipes)}
}

// ranks returns the right ranks of most tests; the first one is that of the chapter.
func ranks() []api.Rank {
	return []api.Rank{row("Principal", f(8, 1), 36, 61), row("Flute", f(4, 1), 40, 30), row("Quint", f(8, 3), -10, 128), row("Bass", f(16, 1), 96, 1)}
}

// place returns the place of most tests.
func place() stop.Place { return stop.Place{Ranks: ranks(), Keys: api.Compass{Low: 36, High: 96}} }

// seg returns a segment.
func seg(from, to int, draws ...api.Draw) api.Segment {
	return api.Segment{From: from, To: to, Draws: draws}
}

// d returns a draw.
func d(rank, shift int) api.Draw { return api.Draw{Rank: rank, Shift: shift} }

// stopOf returns a stop of some segments.
func stopOf(segments ...api.Segment) api.Stop {
	return api.Stop{Name: "Mixture", Feet: f(2, 1), Segments: segments}
}

// example returns a right stop with holes, with an empty segment, and with draws of one pipe for several keys.
func example() api.Stop {
	return stopOf(seg(36, 47, d(0, 12), d(2, 0), d(0, 0)), seg(48, 48), seg(50, 90, d(1, -12), d(0, 24), d(3, 6), d(3, 7)), seg(91, 96, d(0, 40), d(1, 40)))
}

// same reports whether two stops are equal; no draws are equal to no draws.
func same(a, b api.Stop) bool {
	return a.Name == b.Name && a.Feet == b.Feet && slices.EqualFunc(a.Segments, b.Segments, func(x, y api.Segment) bool {
		return x.From == y.From && x.To == y.To && slices.Equal(x.Draws, y.Draws)
	})
}

// copied returns a stop that shares no memory with another one.
func copied(s api.Stop) api.Stop {
	s.Segments = slices.Clone(s.Segments)
	for i := range s.Segments {
		s.Segments[i].Draws = slices.Clone(s.Segments[i].Draws)
	}
	return s
}

// copiedPlace returns a place that shares no memory with another one.
func copiedPlace(x stop.Place) stop.Place {
	x.Ranks = slices.Clone(x.Ranks)
	for i := range x.Ranks {
		x.Ranks[i].Wind = slices.Clone(x.Ranks[i].Wind)
	}
	return x
}

// some returns right stops for the place of most tests.
func some() []api.Stop {
	l := []api.Stop{
		example(), stopOf(seg(36, 96)), stopOf(seg(36, 36, d(0, -127), d(0, 127))), stopOf(seg(96, 96, d(3, 0), d(3, 1), d(3, -1))),
		{Name: "a", Feet: f(128, 1), Segments: []api.Segment{seg(60, 72, d(0, -3))}},
	}
	random := rand.New(rand.NewSource(15))
	for range 60 {
		s := stopOf()
		for from := 36 + random.Intn(8); from <= 96 && len(s.Segments) < 12; {
			to := min(96, from+random.Intn(20))
			s.Segments = append(s.Segments, seg(from, to, draws(random)...))
			from = to + 1 + random.Intn(2)*random.Intn(4)
		}
		l = append(l, s)
	}
	return l
}

// draws returns up to 8 different draws.
func draws(random *rand.Rand) []api.Draw {
	var l []api.Draw
	for range random.Intn(9) {
		if draw := d(random.Intn(4), random.Intn(80)-40); !slices.Contains(l, draw) {
			l = append(l, draw)
		}
	}
	return l
}

// placeFlaw is a change that makes a place wrong, and its error.
type placeFlaw struct {
	change func(x *stop.Place)
	e      api.Errno
}

// placeFlaws has changes that make a place wrong, in the order in which the chapter names their errors.
func placeFlaws() []placeFlaw {
	return []placeFlaw{
		{func(x *stop.Place) { x.Ranks = append(x.Ranks, make([]api.Rank, 60)...) }, api.ErrLimit},
		{func(x *stop.Place) { x.Ranks[0].Wind = nil }, api.ErrEmpty},
		{func(x *stop.Place) { x.Ranks[1].Name = "4" }, api.ErrName},
		{func(x *stop.Place) { x.Ranks[3].Feet = f(1, 200) }, api.ErrLimit},
		{func(x *stop.Place) { x.Keys = api.Compass{Low: -1, High: -2} }, api.ErrRange},
		{func(x *stop.Place) { x.Keys = api.Compass{Low: 36, High: 128} }, api.ErrRange},
		{func(x *stop.Place) { x.Keys = api.Compass{Low: 96, High: 36} }, api.ErrCompass},
		{func(x *stop.Place) { x.Keys = api.Compass{Low: math.MinInt, High: math.MaxInt} }, api.ErrRange},
	}
}

// stopFlaw is a change that makes the example wrong, and its error; the flaws of one field cannot be had together.
type stopFlaw struct {
	field  int
	change func(s *api.Stop)
	e      api.Errno
}

// stopFlaws has changes that make the example wrong, in the order in which the chapter names their errors.
func stopFlaws() []stopFlaw {
	many := make([]api.Draw, 9)
	for i := range many {
		many[i] = d(0, i)
	}
	return []stopFlaw{
		{0, func(s *api.Stop) { s.Name = "" }, api.ErrName},
		{0, func(s *api.Stop) { s.Name = "4_Octave" }, api.ErrName},
		{0, func(s *api.Stop) { s.Name = strings.Repeat("a", 33) }, api.ErrName},
		{1, func(s *api.Stop) { s.Feet = api.Fraction{} }, api.ErrNumber},
		{1, func(s *api.Stop) { s.Feet = f(0, 1) }, api.ErrRange},
		{1, func(s *api.Stop) { s.Feet = f(1, 129) }, api.ErrLimit},
		{2, func(s *api.Stop) { s.Segments = nil }, api.ErrEmpty},
		{2, func(s *api.Stop) { s.Segments = make([]api.Segment, 13) }, api.ErrLimit},
		{3, func(s *api.Stop) { s.Segments[0].From = 35 }, api.ErrCompass},
		{3, func(s *api.Stop) { s.Segments[0].From = 97 }, api.ErrCompass},
		{3, func(s *api.Stop) { s.Segments[0].From, s.Segments[0].To = 97, 96 }, api.ErrCompass},
		{3, func(s *api.Stop) { s.Segments[0].From, s.Segments[0].To = 36, 35 }, api.ErrCompass},
		{3, func(s *api.Stop) { s.Segments[0].To = 97 }, api.ErrCompass},
		{3, func(s *api.Stop) { s.Segments[0].From = math.MinInt }, api.ErrCompass},
		{3, func(s *api.Stop) { s.Segments[0].To = math.MaxInt }, api.ErrCompass},
		{3, func(s *api.Stop) { s.Segments[0].From, s.Segments[0].To = 40, 39 }, api.ErrOrder},
		{3, func(s *api.Stop) { s.Segments[0].From, s.Segments[0].To = 96, 36 }, api.ErrOrder},
		{4, func(s *api.Stop) { s.Segments[0].Draws = many }, api.ErrLimit},
		{4, func(s *api.Stop) { s.Segments[0].Draws = slices.Repeat([]api.Draw{d(-1, 200)}, 9) }, api.ErrLimit},
		{5, func(s *api.Stop) { s.Segments[0].Draws[0] = d(4, 0) }, api.ErrUnknown},
		{5, func(s *api.Stop) { s.Segments[0].Draws[0] = d(-1, 0) }, api.ErrUnknown},
		{5, func(s *api.Stop) { s.Segments[0].Draws[0] = d(4, 128) }, api.ErrUnknown},
		{5, func(s *api.Stop) { s.Segments[0].Draws[0] = d(math.MaxInt, 0) }, api.ErrUnknown},
		{5, func(s *api.Stop) { s.Segments[0].Draws[0] = d(math.MinInt, 0) }, api.ErrUnknown},
		{5, func(s *api.Stop) { s.Segments[0].Draws[0] = d(0, 128) }, api.ErrRange},
		{5, func(s *api.Stop) { s.Segments[0].Draws[0] = d(0, -128) }, api.ErrRange},
		{5, func(s *api.Stop) { s.Segments[0].Draws[0] = d(0, math.MinInt) }, api.ErrRange},
		{6, func(s *api.Stop) { s.Segments[0].Draws[1] = s.Segments[0].Draws[0] }, api.ErrDuplicate},
		{7, func(s *api.Stop) { s.Segments[0].Draws[2] = d(9, 999) }, api.ErrUnknown},
		{8, func(s *api.Stop) { s.Segments[1].From = 97 }, api.ErrCompass},
		{8, func(s *api.Stop) { s.Segments[1].From = 49 }, api.ErrOrder},
		{8, func(s *api.Stop) { s.Segments[1].From = 47 }, api.ErrOrder},
		{8, func(s *api.Stop) { s.Segments[1].From = 40 }, api.ErrOrder},
		{8, func(s *api.Stop) { s.Segments[1].From, s.Segments[1].To = 36, 36 }, api.ErrOrder},
		{9, func(s *api.Stop) { s.Segments[2].Draws[3] = s.Segments[2].Draws[2] }, api.ErrDuplicate},
		{10, func(s *api.Stop) { s.Segments[3].To = 97 }, api.ErrCompass},
		{10, func(s *api.Stop) { s.Segments[3].To = 90 }, api.ErrOrder},
		{10, func(s *api.Stop) { s.Segments[3].From = 90 }, api.ErrOrder},
		{11, func(s *api.Stop) { s.Segments[3].Draws[1] = s.Segments[3].Draws[0] }, api.ErrDuplicate},
	}
}

// wrong is a place and a stop that are not right together, and their error.
type wrong struct {
	x stop.Place
	s api.Stop
	e api.Errno
}

// wrongs returns places and stops with one flaw, or with two of which the first one counts.
func wrongs() []wrong {
	var l []wrong
	places, stops := placeFlaws(), stopFlaws()
	for i, flaw := range places {
		x := place()
		flaw.change(&x)
		l = append(l, wrong{x, example(), flaw.e})
		for _, later := range stops {
			s := example()
			later.change(&s)
			l = append(l, wrong{x, s, flaw.e})
		}
		for _, later := range places[max(i+1, 4):] {
			if i < 4 {
				y := place()
				later.change(&y)
				flaw.change(&y)
				l = append(l, wrong{y, example(), flaw.e})
			}
		}
	}
	for i, flaw := range stops {
		s := example()
		flaw.change(&s)
		l = append(l, wrong{place(), s, flaw.e})
		for _, later := range stops[i+1:] {
			if flaw.field < later.field && flaw.field != 4 {
				s := example()
				later.change(&s)
				flaw.change(&s)
				l = append(l, wrong{place(), s, flaw.e})
			}
		}
	}
	return l
}

// P15.1
func TestCheck(t *testing.T) {
	for _, s := range some() {
		if e := stop.Check(place(), s); e != api.OK {
			t.Errorf("Check(%v) = %d", s, e)
		}
	}
	for _, c := range wrongs() {
		if e := stop.Check(c.x, c.s); e != c.e {
			t.Errorf("Check(%v, %v) = %d, not %d", c.x, c.s, e, c.e)
		}
	}
}

// P15.1: what is just right, and just not.
func TestCheckEnds(t *testing.T) {
	var twelve, thirteen []api.Segment
	for i := range 13 {
		thirteen = append(thirteen, seg(36+i, 36+i))
	}
	twelve = thirteen[:12]
	var eight []api.Draw
	for i := range 8 {
		eight = append(eight, d(0, i))
	}
	sixty := slices.Repeat([]api.Rank{row("R", f(8, 1), 0, 1)}, 60)
	for i, c := range []struct {
		x stop.Place
		s api.Stop
		e api.Errno
	}{
		{place(), stopOf(twelve...), api.OK}, {place(), stopOf(thirteen...), api.ErrLimit}, {place(), stopOf(seg(36, 96, eight...)), api.OK}, {place(), stopOf(seg(36, 96, append(eight, d(1, 0))...)), api.ErrLimit},
		{place(), stopOf(seg(36, 96, d(0, 127), d(0, -127), d(1, 127), d(1, -127))), api.OK}, {place(), stopOf(seg(36, 96, d(0, 5), d(1, 5), d(0, 5))), api.ErrDuplicate}, {place(), stopOf(seg(36, 60, d(0, 5)), seg(61, 96, d(0, 5))), api.OK},
		{stop.Place{Keys: api.Compass{Low: 0, High: 127}}, stopOf(seg(0, 127)), api.OK}, {stop.Place{Keys: api.Compass{Low: 0, High: 127}}, stopOf(seg(0, 127, d(0, 0))), api.ErrUnknown}, {stop.Place{Keys: api.Compass{Low: 60, High: 60}}, stopOf(seg(60, 60)), api.OK},
		{stop.Place{Ranks: sixty, Keys: api.Compass{Low: 0, High: 127}}, stopOf(seg(0, 127, d(59, 0))), api.OK}, {stop.Place{Ranks: sixty, Keys: api.Compass{Low: 0, High: 127}}, stopOf(seg(0, 127, d(60, 0))), api.ErrUnknown}, {stop.Place{Ranks: append(sixty, sixty[0]), Keys: api.Compass{Low: 0, High: 127}}, stopOf(seg(0, 127)), api.ErrLimit},
	} {
		if e := stop.Check(c.x, c.s); e != c.e {
			t.Errorf("%d: Check = %d, not %d", i, e, c.e)
		}
	}
}

// P15.3, P15.4, P15.7, P1: functions with a place and a stop return the error of Check first, with zero values.
func TestWrongStops(t *testing.T) {
	for _, c := range wrongs() {
		if n, e := stop.Speaking(c.x, c.s); n != (api.Notes{}) || e != c.e {
			t.Errorf("Speaking(%v, %v) = %v, %d", c.x, c.s, n, e)
		}
		if n, e := stop.Missing(c.x, c.s); n != (api.Notes{}) || e != c.e {
			t.Errorf("Missing(%v, %v) = %v, %d", c.x, c.s, n, e)
		}
		for _, p := range []api.Pipe{{}, {Rank: -1}, {Rank: 3, Number: 1}} {
			if n, e := stop.Keys(c.x, c.s, p); n != (api.Notes{}) || e != c.e {
				t.Errorf("Keys(%v, %v, %v) = %v, %d", c.x, c.s, p, n, e)
			}
		}
		if l, e := stop.Used(c.x, c.s); len(l) > 0 || e != c.e {
			t.Errorf("Used(%v, %v) = %v, %d", c.x, c.s, l, e)
		}
		if is, e := stop.Agrees(c.x, c.s); is || e != c.e {
			t.Errorf("Agrees(%v, %v) = %t, %d", c.x, c.s, is, e)
		}
		for _, to := range []api.Compass{{Low: 36, High: 96}, {Low: 5, High: 4}, {Low: -1, High: 4}, {}} {
			if s, e := stop.Fit(c.x, c.s, to); !same(s, api.Stop{}) || e != c.e {
				t.Errorf("Fit(%v, %v, %v) = %v, %d", c.x, c.s, to, s, e)
			}
		}
	}
}

// defined is the definition of what a key draws.
func defined(s api.Stop, key int) []api.Draw {
	for _, segment := range s.Segments {
		if !(segment.From > key) && !(segment.To < key) {
			return segment.Draws
		}
	}
	return nil
}

// pipesOf is the definition of the pipes of a key: all pipes of the ranks that one of its draws has, in order.
func pipesOf(l []api.Rank, s api.Stop, key int) []api.Pipe {
	var all []api.Pipe
	for i, r := range l {
		for n := range r.Wind {
			if slices.ContainsFunc(defined(s, key), func(draw api.Draw) bool { return draw.Rank == i && key+draw.Shift-r.First == n }) {
				all = append(all, api.Pipe{Rank: i, Number: n})
			}
		}
	}
	return all
}

// odd returns stops that are not right.
func odd() []api.Stop {
	return []api.Stop{
		{}, stopOf(), stopOf(seg(60, 40, d(0, 0))), stopOf(seg(40, 60, d(0, 0)), seg(50, 70, d(0, 12)), seg(45, 46, d(1, 0))), stopOf(seg(70, 80, d(0, 1)), seg(40, 50, d(0, 2))),
		stopOf(seg(math.MinInt, math.MaxInt, d(0, 0), d(0, 0), d(-1, 0), d(4, 0), d(math.MinInt, 3), d(math.MaxInt, 3), d(2, 5), d(1, 5), d(0, 7), d(0, -7), d(3, math.MaxInt))),
		stopOf(seg(math.MaxInt-5, math.MaxInt, d(0, math.MaxInt), d(0, math.MinInt+41), d(2, math.MinInt)), seg(math.MinInt, 0, d(0, math.MinInt), d(0, math.MinInt+50), d(0, 60), d(3, math.MaxInt))),
	}
}

// keys has all notes, and ints that are none.
func keys() []int {
	l := []int{math.MinInt, math.MinInt + 1, math.MinInt + 36, -1, -200, 128, 500, math.MaxInt - 36, math.MaxInt - 5, math.MaxInt - 1, math.MaxInt}
	for key := range 128 {
		l = append(l, key)
	}
	return l
}

// P15.2
func TestDrawsAndPipes(t *testing.T) {
	strange := []api.Rank{{First: 10}, {First: math.MinInt, Wind: make([]int, 3)}, {First: math.MaxInt, Wind: make([]int, 300)}, {Name: "?", First: -300, Wind: make([]int, 500)}}
	for _, s := range append(some(), odd()...) {
		for _, key := range keys() {
			if l := stop.Draws(s, key); !slices.Equal(l, defined(s, key)) {
				t.Errorf("Draws(%v, %d) = %v", s, key, l)
			}
			for i, r := range [][]api.Rank{ranks(), nil, ranks()[:1], strange} {
				if l := stop.Pipes(r, s, key); !slices.Equal(l, pipesOf(r, s, key)) {
					t.Errorf("Pipes(%d, %v, %d) = %v", i, s, key, l)
				}
			}
		}
	}
}

// P15.2: sums wrap around, pipes are in order and there once, and the first segment with the key counts.
func TestPipes(t *testing.T) {
	for i, c := range []struct {
		ranks []api.Rank
		s     api.Stop
		key   int
		want  []api.Pipe
	}{
		{ranks(), example(), 40, []api.Pipe{{Rank: 0, Number: 4}, {Rank: 0, Number: 16}, {Rank: 2, Number: 50}}}, {ranks(), example(), 48, nil}, {ranks(), example(), 49, nil}, {ranks(), example(), 35, nil}, {ranks(), example(), 90, []api.Pipe{{Rank: 3, Number: 0}}}, {ranks(), example(), 89, []api.Pipe{{Rank: 3, Number: 0}}},
		{ranks(), stopOf(seg(36, 60, d(0, 0), d(0, 0))), 36, []api.Pipe{{Rank: 0, Number: 0}}}, {ranks(), stopOf(seg(36, 96, d(0, 0))), 96, []api.Pipe{{Rank: 0, Number: 60}}}, {ranks(), stopOf(seg(36, 97, d(0, 0))), 97, nil}, {ranks(), stopOf(seg(35, 97, d(0, 0))), 35, nil},
		{ranks(), stopOf(seg(40, 60, d(0, 0)), seg(50, 70, d(0, 12))), 55, []api.Pipe{{Rank: 0, Number: 19}}}, {ranks(), stopOf(seg(40, 60), seg(50, 70, d(0, 12))), 55, nil}, {ranks(), stopOf(seg(40, 60, d(0, 0)), seg(50, 70, d(0, 12))), 65, []api.Pipe{{Rank: 0, Number: 41}}},
		{[]api.Rank{{First: math.MinInt, Wind: []int{1, 2}}}, stopOf(seg(0, math.MaxInt, d(0, 1))), math.MaxInt, []api.Pipe{{Rank: 0, Number: 0}}}, {[]api.Rank{{First: math.MinInt, Wind: []int{1, 2}}}, stopOf(seg(0, math.MaxInt, d(0, 2))), math.MaxInt, []api.Pipe{{Rank: 0, Number: 1}}}, {[]api.Rank{{First: math.MinInt, Wind: []int{1, 2}}}, stopOf(seg(0, math.MaxInt, d(0, 3))), math.MaxInt, nil},
		{[]api.Rank{{First: 0, Wind: []int{1, 2}}}, stopOf(seg(math.MinInt, 0, d(0, math.MinInt), d(0, math.MinInt+1))), math.MinInt, []api.Pipe{{Rank: 0, Number: 0}, {Rank: 0, Number: 1}}},
	} {
		if l := stop.Pipes(c.ranks, c.s, c.key); !slices.Equal(l, c.want) {
			t.Errorf("%d: Pipes = %v, not %v", i, l, c.want)
		}
	}
}

// notes returns the notes from 0 to 127 for which a function holds.
func notes(holds func(key int) bool) api.Notes {
	var n api.Notes
	for key := range 128 {
		if holds(key) && key < 64 {
			n.Low |= 1 << key
		} else if holds(key) {
			n.High |= 1 << (key - 64)
		}
	}
	return n
}

// P15.3
func TestSpeakingAndMissing(t *testing.T) {
	x := place()
	for _, s := range some() {
		speaking := notes(func(key int) bool { return 36 <= key && key <= 96 && len(pipesOf(x.Ranks, s, key)) > 0 })
		if n, e := stop.Speaking(x, s); n != speaking || e != api.OK {
			t.Errorf("Speaking(%v) = %v, %d", s, n, e)
		}
		missing := notes(func(key int) bool {
			lacks := len(defined(s, key)) == 0
			for _, draw := range defined(s, key) {
				lacks = lacks || len(pipesOf(x.Ranks, stopOf(seg(key, key, draw)), key)) == 0
			}
			return 36 <= key && key <= 96 && lacks
		})
		if n, e := stop.Missing(x, s); n != missing || e != api.OK {
			t.Errorf("Missing(%v) = %v, %d", s, n, e)
		}
	}
	octave := stopOf(seg(36, 96, d(0, 12)))
	if n, e := stop.Missing(x, octave); n != notes(func(key int) bool { return 85 <= key && key <= 96 }) || e != api.OK {
		t.Errorf("Missing of the example = %v, %d", n, e)
	}
	if n, e := stop.Speaking(x, octave); n != notes(func(key int) bool { return 36 <= key && key <= 84 }) || e != api.OK {
		t.Errorf("Speaking of the example = %v, %d", n, e)
	}
}

// P15.3: a key with a draw whose pipe there is and one whose pipe there is not both speaks and is missing; so do all notes of the widest compass.
func TestHalfMissing(t *testing.T) {
	x := stop.Place{Ranks: ranks(), Keys: api.Compass{Low: 0, High: 127}}
	s := stopOf(seg(0, 127, d(0, 0), d(0, 12)))
	if n, e := stop.Speaking(x, s); n != notes(func(key int) bool { return 24 <= key && key <= 96 }) || e != api.OK {
		t.Errorf("Speaking = %v, %d", n, e)
	}
	if n, e := stop.Missing(x, s); n != notes(func(key int) bool { return key < 36 || key > 84 }) || e != api.OK {
		t.Errorf("Missing = %v, %d", n, e)
	}
	whole := stop.Place{Ranks: []api.Rank{row("R", f(8, 1), 0, 128)}, Keys: x.Keys}
	all := api.Notes{Low: math.MaxUint64, High: math.MaxUint64}
	if n, e := stop.Speaking(whole, stopOf(seg(0, 127, d(0, 0)))); n != all || e != api.OK {
		t.Errorf("Speaking of all keys = %v, %d", n, e)
	}
	if n, e := stop.Missing(stop.Place{Keys: x.Keys}, stopOf(seg(0, 127))); n != all || e != api.OK {
		t.Errorf("Missing of all keys = %v, %d", n, e)
	}
}

// P15.3
func TestKeysAndUsed(t *testing.T) {
	x := place()
	for _, s := range some() {
		var used []api.Pipe
		for i, r := range x.Ranks {
			for n := range r.Wind {
				p := api.Pipe{Rank: i, Number: n}
				want := notes(func(key int) bool {
					return 36 <= key && key <= 96 && slices.Contains(defined(s, key), d(i, n+r.First-key))
				})
				if want != (api.Notes{}) {
					used = append(used, p)
				}
				if got, e := stop.Keys(x, s, p); got != want || e != api.OK {
					t.Errorf("Keys(%v, %v) = %v, %d", s, p, got, e)
				}
			}
		}
		if l, e := stop.Used(x, s); !slices.Equal(l, used) || e != api.OK {
			t.Errorf("Used(%v) = %v, %d", s, l, e)
		}
		for _, p := range []api.Pipe{{Rank: -1}, {Rank: 4}, {Rank: 0, Number: -1}, {Rank: 0, Number: 61}, {Rank: 1, Number: 30}, {Rank: 3, Number: 1}, {Rank: math.MinInt, Number: 0}, {Rank: math.MaxInt, Number: 0}, {Rank: 2, Number: math.MinInt}, {Rank: 2, Number: math.MaxInt}} {
			if got, e := stop.Keys(x, s, p); got != (api.Notes{}) || e != api.ErrUnknown {
				t.Errorf("Keys(%v, %v) = %v, %d", s, p, got, e)
			}
		}
	}
	if got, e := stop.Keys(stop.Place{Keys: x.Keys}, stopOf(seg(36, 96)), api.Pipe{}); got != (api.Notes{}) || e != api.ErrUnknown {
		t.Errorf("Keys without ranks = %v, %d", got, e)
	}
}

// P15.4
func TestBreaks(t *testing.T) {
	a, b := d(0, 12), d(1, 7)
	for i, c := range []struct {
		s    api.Stop
		want []int
	}{
		{api.Stop{}, nil}, {stopOf(seg(5, 6, a)), nil}, {stopOf(seg(5, 6, a), seg(7, 9, a)), nil}, {stopOf(seg(5, 6, a), seg(8, 9, a)), []int{8}}, {stopOf(seg(5, 6, a), seg(7, 9, b)), []int{7}}, {stopOf(seg(5, 6, a, b), seg(7, 9, b, a)), []int{7}}, {stopOf(seg(5, 6, a, b), seg(7, 9, a, b)), nil}, {stopOf(seg(5, 6, a), seg(7, 9, a, a)), []int{7}}, {stopOf(seg(5, 6, a), seg(7, 9)), []int{7}}, {stopOf(seg(5, 6), seg(7, 9)), nil},
		{stopOf(api.Segment{From: 5, To: 6}, api.Segment{From: 7, To: 8, Draws: []api.Draw{}}), nil}, {stopOf(seg(5, 6, a), seg(7, 9, b), seg(10, 11, b), seg(12, 13, a), seg(20, 30, a)), []int{7, 12, 20}}, {example(), []int{48, 50, 91}},
		{stopOf(seg(5, 6, a), seg(6, 9, a)), []int{6}}, {stopOf(seg(50, 60, a), seg(7, 9, a), seg(7, 9, a)), []int{7, 7}}, {stopOf(seg(0, math.MaxInt, a), seg(math.MinInt, 0, a)), nil}, {stopOf(seg(0, math.MaxInt, a), seg(math.MinInt+1, 0, a)), []int{math.MinInt + 1}}, {stopOf(seg(0, math.MaxInt, a), seg(math.MinInt, 0, b)), []int{math.MinInt}}, {stopOf(seg(9, 3, d(-5, 999)), seg(4, 3, d(-5, 999))), nil},
	} {
		if l := stop.Breaks(c.s); !slices.Equal(l, c.want) {
			t.Errorf("%d: Breaks = %v, not %v", i, l, c.want)
		}
	}
}

// P15.4
func TestAgrees(t *testing.T) {
	x := place()
	at := func(feet api.Fraction, segments ...api.Segment) api.Stop {
		return api.Stop{Name: "S", Feet: feet, Segments: segments}
	}
	for i, c := range []struct {
		s    api.Stop
		want bool
	}{
		{at(f(8, 1), seg(36, 96, d(0, 0))), true}, {at(f(8, 1), seg(36, 96, d(0, 12))), false}, {at(f(4, 1), seg(36, 96, d(0, 12))), true}, {at(f(4, 1), seg(36, 96, d(1, 0))), true}, {at(f(4, 1), seg(36, 96, d(2, -7))), true}, {at(f(4, 1), seg(36, 96, d(2, 7))), false}, {at(f(4, 1), seg(36, 96, d(3, 24))), true}, {at(f(8, 3), seg(36, 96, d(0, 19), d(0, 0))), true}, {at(f(8, 3), seg(36, 96, d(0, 0), d(0, 19))), false},
		{at(f(8, 1), seg(36, 96)), true}, {at(f(8, 1), seg(36, 50, d(0, 0)), seg(51, 52), seg(53, 96, d(1, -12), d(0, 5))), true}, {at(f(8, 1), seg(36, 50, d(0, 0)), seg(51, 52), seg(53, 96, d(1, 0))), false}, {at(f(8, 1), seg(36, 50), seg(51, 52, d(0, 1))), false}, {at(f(8, 1), seg(36, 50, d(0, 1)), seg(51, 52, d(0, 0))), false}, {example(), false},
	} {
		if is, e := stop.Agrees(x, c.s); is != c.want || e != api.OK {
			t.Errorf("%d: Agrees = %t, %d", i, is, e)
		}
	}
	for _, feet := range pitch.Usual() {
		for i, r := range x.Ranks {
			shift, _ := pitch.Shift(feet, r.Feet)
			for _, by := range []int{0, 1, -1} {
				if is, e := stop.Agrees(x, at(feet, seg(40, 41, d(i, shift+by)))); is != (by == 0) || e != api.OK {
					t.Errorf("Agrees of %v for the rank %d with the shift %d = %t, %d", feet, i, shift+by, is, e)
				}
			}
		}
	}
}
