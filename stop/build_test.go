package stop_test

import (
	"math"
	"math/rand"
	"slices"
	"testing"

	"bombarde/api"
	"bombarde/noteset"
	"bombarde/pitch"
	"bombarde/stop"
)

// source returns a rank of the place of most tests.
func source(rank int) stop.Source { return stop.Source{Place: place(), Rank: rank} }

// wide returns a source with the lowest rank and the highest one, of whose feet some shifts are too great for a draw.
func wide(rank int) stop.Source {
	x := stop.Place{Ranks: []api.Rank{row("Low", f(128, 1), 0, 1), row("High", f(1, 128), 0, 1)}, Keys: api.Compass{Low: 10, High: 20}}
	return stop.Source{Place: x, Rank: rank}
}

// at returns a row of a mixture.
func at(from int, feet ...api.Fraction) stop.Break { return stop.Break{From: from, Feet: feet} }

// expect compares a stop with what is wanted.
func expect(t *testing.T, what string, s api.Stop, e api.Errno, want api.Stop) {
	t.Helper()
	if !same(s, want) || e != api.OK {
		t.Errorf("%s = %v, %d, not %v", what, s, e, want)
	}
}

// fail compares an error with what is wanted.
func fail(t *testing.T, what string, s api.Stop, e, want api.Errno) {
	t.Helper()
	if !same(s, api.Stop{}) || e != want {
		t.Errorf("%s = %v, %d, not %d", what, s, e, want)
	}
}

// P15.5, P15.6: what is wrong with the source, or with the name, comes before what is wrong with the feet or the table.
func TestWrongSources(t *testing.T) {
	feet := []api.Fraction{f(4, 1), {}, f(0, 1), f(1, 1000)}
	tables := [][]stop.Break{{at(36, f(4, 1))}, nil, make([]stop.Break, 13), {at(40)}, {at(36)}}
	both := func(x stop.Source, name string, want api.Errno) {
		for _, feet := range feet {
			s, e := stop.Unit(x, name, feet)
			fail(t, "Unit", s, e, want)
		}
		for _, table := range tables {
			s, e := stop.Mixture(x, name, table)
			fail(t, "Mixture", s, e, want)
		}
	}
	for _, flaw := range placeFlaws() {
		for _, rank := range []int{0, -1, 4, 1000} {
			x := source(rank)
			flaw.change(&x.Place)
			both(x, "Octave", flaw.e)
			both(x, "", flaw.e)
		}
	}
	for _, rank := range []int{-1, 4, 60, math.MinInt, math.MaxInt} {
		both(source(rank), "Octave", api.ErrUnknown)
		both(source(rank), "4", api.ErrUnknown)
	}
	both(stop.Source{Place: stop.Place{Keys: api.Compass{Low: 36, High: 96}}}, "Octave", api.ErrUnknown)
	for _, name := range []string{"", "4", "a b", "Mixture_of_a_name_of_33_letters__"} {
		both(source(1), name, api.ErrName)
	}
}

// P15.5
func TestUnit(t *testing.T) {
	s, e := stop.Unit(source(0), "Octave", f(4, 1))
	expect(t, "Unit", s, e, api.Stop{Name: "Octave", Feet: f(4, 1), Segments: []api.Segment{seg(36, 96, d(0, 12))}})
	if l := stop.Pipes(ranks(), s, 36); !slices.Equal(l, []api.Pipe{{Rank: 0, Number: 12}}) {
		t.Errorf("Pipes of the key 36 = %v", l)
	}
	if l := stop.Pipes(ranks(), s, 84); !slices.Equal(l, []api.Pipe{{Rank: 0, Number: 60}}) {
		t.Errorf("Pipes of the key 84 = %v", l)
	}
	if n, e := stop.Missing(place(), s); n != notes(func(key int) bool { return 85 <= key && key <= 96 }) || e != api.OK {
		t.Errorf("Missing = %v, %d", n, e)
	}
	for _, feet := range append(pitch.Usual(), f(128, 1), f(1, 128), f(3, 1), f(100, 7)) {
		for i, r := range ranks() {
			shift, _ := pitch.Shift(feet, r.Feet)
			s, e := stop.Unit(source(i), "U", feet)
			if shift < -127 || shift > 127 {
				fail(t, "Unit", s, e, api.ErrRange)
				continue
			}
			expect(t, "Unit", s, e, api.Stop{Name: "U", Feet: feet, Segments: []api.Segment{seg(36, 96, d(i, shift))}})
			if e := stop.Check(place(), s); e != api.OK {
				t.Errorf("Check of the unit stop of %v = %d", feet, e)
			}
			if is, e := stop.Agrees(place(), s); !is || e != api.OK {
				t.Errorf("Agrees of the unit stop of %v = %t, %d", feet, is, e)
			}
		}
	}
	for _, c := range []struct {
		x    stop.Source
		feet api.Fraction
		e    api.Errno
	}{
		{source(0), api.Fraction{}, api.ErrNumber}, {source(0), f(8, 2), api.ErrNumber}, {source(0), f(0, 1), api.ErrRange}, {source(0), f(129, 1), api.ErrRange}, {source(0), f(1, 129), api.ErrLimit},
		{wide(0), f(1, 8), api.OK}, {wide(0), f(1, 12), api.OK}, {wide(0), f(1, 13), api.ErrRange}, {wide(0), f(1, 128), api.ErrRange}, {wide(1), f(8, 1), api.OK}, {wide(1), f(12, 1), api.OK}, {wide(1), f(13, 1), api.ErrRange}, {wide(1), f(128, 1), api.ErrRange},
	} {
		s, e := stop.Unit(c.x, "U", c.feet)
		if e != c.e || e != api.OK && !same(s, api.Stop{}) || e == api.OK && stop.Check(c.x.Place, s) != api.OK {
			t.Errorf("Unit of %v on %v = %v, %d", c.feet, c.x.Place.Ranks[c.x.Rank].Feet, s, e)
		}
	}
}

// P15.6
func TestMixture(t *testing.T) {
	s, e := stop.Mixture(source(0), "Mixture", []stop.Break{at(36, f(2, 1), f(4, 3)), at(60, f(4, 1), f(8, 3))})
	expect(t, "Mixture", s, e, stopOf(seg(36, 59, d(0, 24), d(0, 31)), seg(60, 96, d(0, 12), d(0, 19))))
	if l := stop.Breaks(s); !slices.Equal(l, []int{60}) {
		t.Errorf("Breaks = %v", l)
	}
	if l := stop.Pipes(ranks(), s, 60); !slices.Equal(l, []api.Pipe{{Rank: 0, Number: 36}, {Rank: 0, Number: 43}}) {
		t.Errorf("Pipes of the key 60 = %v", l)
	}
	random := rand.New(rand.NewSource(156))
	for range 300 {
		rank, table := random.Intn(4), tableOf(random)
		want := api.Stop{Name: "M", Feet: table[0].Feet[0]}
		level := true // all rows begin with the same shift
		for i, line := range table {
			to := 96
			if i+1 < len(table) {
				to = table[i+1].From - 1
			}
			var draws []api.Draw
			for _, feet := range line.Feet {
				shift, _ := pitch.Shift(feet, ranks()[rank].Feet)
				draws = append(draws, d(rank, shift))
			}
			want.Segments = append(want.Segments, seg(line.From, to, draws...))
			level = level && draws[0] == want.Segments[0].Draws[0]
		}
		s, e := stop.Mixture(source(rank), "M", table)
		expect(t, "Mixture", s, e, want)
		if e := stop.Check(place(), s); e != api.OK {
			t.Errorf("Check of the mixture %v = %d", table, e)
		}
		if is, e := stop.Agrees(place(), s); is != level || e != api.OK {
			t.Errorf("Agrees of the mixture %v = %t, %d", table, is, e)
		}
	}
}

// tableOf returns a right table with rows of usual feet.
func tableOf(random *rand.Rand) []stop.Break {
	var table []stop.Break
	usual := pitch.Usual()
	rows, from := 1+random.Intn(12), 36
	for range rows {
		order := random.Perm(len(usual))
		if random.Intn(2) == 0 {
			slices.Sort(order)
		}
		line := at(from)
		for _, k := range order[:1+random.Intn(8)] {
			line.Feet = append(line.Feet, usual[k])
		}
		table = append(table, line)
		from += 1 + random.Intn(5)
	}
	return table
}

// P15.6: the errors of the table, each before those that come later, in its row and in later ones.
func TestMixtureErrors(t *testing.T) {
	var nine []api.Fraction
	for _, feet := range pitch.Usual()[:9] {
		nine = append(nine, feet)
	}
	eight := f(8, 1)
	low := at(36, eight)
	rows := func(n int) []stop.Break {
		var l []stop.Break
		for i := range n {
			l = append(l, at(36+i, eight))
		}
		return l
	}
	for i, c := range []struct {
		table []stop.Break
		e     api.Errno
	}{
		{nil, api.ErrEmpty}, {[]stop.Break{}, api.ErrEmpty}, {rows(12), api.OK}, {rows(13), api.ErrLimit}, {make([]stop.Break, 13), api.ErrLimit},
		{[]stop.Break{at(37, eight)}, api.ErrOrder}, {[]stop.Break{at(35, eight)}, api.ErrOrder}, {[]stop.Break{at(97)}, api.ErrOrder}, {[]stop.Break{at(0)}, api.ErrOrder}, {[]stop.Break{at(math.MinInt, eight)}, api.ErrOrder},
		{[]stop.Break{low, at(36, eight)}, api.ErrOrder}, {[]stop.Break{low, at(35, eight)}, api.ErrOrder}, {[]stop.Break{low, at(40, eight), at(40, eight)}, api.ErrOrder}, {[]stop.Break{low, at(40, eight), at(39)}, api.ErrOrder}, {[]stop.Break{low, at(math.MinInt)}, api.ErrOrder}, {[]stop.Break{low, at(37, eight)}, api.OK},
		{[]stop.Break{low, at(96, eight)}, api.OK}, {[]stop.Break{low, at(97, eight)}, api.ErrCompass}, {[]stop.Break{low, at(97)}, api.ErrCompass}, {[]stop.Break{low, at(math.MaxInt, nine...)}, api.ErrCompass}, {[]stop.Break{low, at(97, eight), at(40, eight)}, api.ErrCompass},
		{[]stop.Break{at(36)}, api.ErrEmpty}, {[]stop.Break{{From: 36, Feet: []api.Fraction{}}}, api.ErrEmpty}, {[]stop.Break{at(36), at(36)}, api.ErrEmpty}, {[]stop.Break{low, at(40)}, api.ErrEmpty},
		{[]stop.Break{at(36, nine[:8]...)}, api.OK}, {[]stop.Break{at(36, nine...)}, api.ErrLimit}, {[]stop.Break{at(36, append(nine, f(1, 0))...)}, api.ErrLimit}, {[]stop.Break{at(36, slices.Repeat([]api.Fraction{{}}, 9)...)}, api.ErrLimit}, {[]stop.Break{low, at(37, nine...)}, api.ErrLimit},
		{[]stop.Break{at(36, f(1, 0))}, api.ErrNumber}, {[]stop.Break{at(36, eight, f(16, 2), eight)}, api.ErrNumber}, {[]stop.Break{at(36, eight, f(129, 1), eight)}, api.ErrRange}, {[]stop.Break{at(36, f(1, 129), f(1, 0))}, api.ErrLimit}, {[]stop.Break{low, at(50, f(0, 1))}, api.ErrRange},
		{[]stop.Break{at(36, eight, eight)}, api.ErrDuplicate}, {[]stop.Break{at(36, eight, f(4, 1), eight, f(1, 0))}, api.ErrDuplicate}, {[]stop.Break{at(36, eight, f(1, 0), eight)}, api.ErrNumber}, {[]stop.Break{at(36, f(8, 3), f(103, 39))}, api.ErrDuplicate}, {[]stop.Break{low, at(40, eight)}, api.OK}, {[]stop.Break{low, at(40, eight, eight)}, api.ErrDuplicate}, {[]stop.Break{at(36, eight, eight), at(36)}, api.ErrDuplicate},
	} {
		s, e := stop.Mixture(source(0), "M", c.table)
		if e != c.e || e != api.OK && !same(s, api.Stop{}) {
			t.Errorf("%d: Mixture = %v, %d, not %d", i, s, e, c.e)
		}
	}
	for i, c := range []struct {
		x    stop.Source
		feet []api.Fraction
		e    api.Errno
	}{
		{wide(0), []api.Fraction{f(1, 12)}, api.OK}, {wide(0), []api.Fraction{f(1, 13)}, api.ErrRange}, {wide(0), []api.Fraction{f(1, 13), f(1, 0)}, api.ErrRange}, {wide(0), []api.Fraction{eight, eight, f(1, 13)}, api.ErrDuplicate}, {wide(0), []api.Fraction{eight, f(1, 13), eight}, api.ErrRange}, {wide(1), []api.Fraction{f(12, 1), f(13, 1)}, api.ErrRange}, {wide(1), []api.Fraction{f(1, 0), f(13, 1)}, api.ErrNumber},
	} {
		s, e := stop.Mixture(c.x, "M", []stop.Break{at(10, c.feet...)})
		if e != c.e || e != api.OK && !same(s, api.Stop{}) {
			t.Errorf("wide %d: Mixture = %v, %d, not %d", i, s, e, c.e)
		}
	}
}

// P15.7
func TestFit(t *testing.T) {
	mixture, _ := stop.Mixture(source(0), "Mixture", []stop.Break{at(36, f(2, 1), f(4, 3)), at(60, f(4, 1), f(8, 3))})
	s, e := stop.Fit(place(), mixture, api.Compass{Low: 48, High: 72})
	expect(t, "Fit", s, e, stopOf(seg(48, 59, d(0, 24), d(0, 31)), seg(60, 72, d(0, 12), d(0, 19))))
	s, e = stop.Fit(place(), mixture, api.Compass{Low: 0, High: 127})
	expect(t, "Fit", s, e, mixture)
	s, e = stop.Fit(place(), mixture, api.Compass{Low: 60, High: 60})
	expect(t, "Fit", s, e, stopOf(seg(60, 60, d(0, 12), d(0, 19))))
	for _, c := range []struct {
		to api.Compass
		e  api.Errno
	}{
		{api.Compass{Low: 0, High: 35}, api.ErrEmpty}, {api.Compass{Low: 97, High: 127}, api.ErrEmpty}, {api.Compass{Low: 0, High: 36}, api.OK}, {api.Compass{Low: 96, High: 127}, api.OK}, {api.Compass{Low: 49, High: 49}, api.ErrEmpty}, {api.Compass{Low: 48, High: 49}, api.OK}, {api.Compass{Low: 49, High: 50}, api.OK},
		{api.Compass{Low: -1, High: 60}, api.ErrRange}, {api.Compass{Low: 40, High: 128}, api.ErrRange}, {api.Compass{Low: 60, High: 59}, api.ErrCompass}, {api.Compass{Low: 120, High: 3}, api.ErrCompass}, {api.Compass{Low: 130, High: 128}, api.ErrRange}, {api.Compass{Low: math.MinInt, High: math.MaxInt}, api.ErrRange},
	} {
		s, e := stop.Fit(place(), example(), c.to)
		if e != c.e || e != api.OK && !same(s, api.Stop{}) || e == api.OK && stop.Check(stop.Place{Ranks: ranks(), Keys: c.to}, s) != api.OK {
			t.Errorf("Fit to %v = %v, %d, not %d", c.to, s, e, c.e)
		}
	}
	for _, s := range some() {
		for _, to := range []api.Compass{{Low: 36, High: 96}, {Low: 0, High: 127}, {Low: 20, High: 60}, {Low: 61, High: 100}, {Low: 50, High: 70}, {Low: 66, High: 66}} {
			fitted, e := stop.Fit(place(), s, to)
			fitsAs(t, s, to, fitted, e)
		}
	}
}

// fitsAs checks a stop that was fitted to a compass.
func fitsAs(t *testing.T, s api.Stop, to api.Compass, fitted api.Stop, e api.Errno) {
	t.Helper()
	var want []api.Segment
	for _, segment := range s.Segments {
		var both []int
		for key := segment.From; key <= segment.To; key++ {
			if to.Low <= key && key <= to.High {
				both = append(both, key)
			}
		}
		if len(both) > 0 {
			want = append(want, seg(both[0], both[len(both)-1], segment.Draws...))
		}
	}
	if len(want) == 0 {
		fail(t, "Fit", fitted, e, api.ErrEmpty)
		return
	}
	expect(t, "Fit", fitted, e, api.Stop{Name: s.Name, Feet: s.Feet, Segments: want})
}

// P15.8
func TestConsequences(t *testing.T) {
	x := place()
	compass, _ := noteset.Range(x.Keys)
	for _, s := range some() {
		for key := 36; key <= 96; key++ {
			if len(stop.Pipes(x.Ranks, s, key)) > len(stop.Draws(s, key)) {
				t.Errorf("the key %d of %v has more pipes than draws", key, s)
			}
		}
		speaking, _ := stop.Speaking(x, s)
		missing, _ := stop.Missing(x, s)
		if noteset.Union(speaking, missing) != compass {
			t.Errorf("the keys %v and %v of %v are not the compass", speaking, missing, s)
		}
		used, _ := stop.Used(x, s)
		for i, r := range x.Ranks {
			for n := range r.Wind {
				p := api.Pipe{Rank: i, Number: n}
				if l, _ := stop.Keys(x, s, p); slices.Contains(used, p) != (noteset.Count(l) > 0) {
					t.Errorf("the pipe %v of %v has the keys %v", p, s, l)
				}
			}
		}
		own, e := stop.Fit(x, s, x.Keys)
		expect(t, "Fit to the own compass", own, e, s)
		to := api.Compass{Low: 30, High: 77}
		fitted, _ := stop.Fit(x, s, to)
		for key := 36; key <= 77; key++ {
			if !slices.Equal(stop.Draws(fitted, key), stop.Draws(s, key)) {
				t.Errorf("the key %d of %v draws something else for %v", key, s, to)
			}
		}
	}
}

// P15.2 to P15.7, P1: arguments stay as they are, and share no memory with results.
func TestMemory(t *testing.T) {
	x, s := place(), example()
	places, stops := copiedPlace(x), copied(s)
	table := []stop.Break{at(36, f(2, 1), f(4, 3)), at(60, f(4, 1), f(8, 3))}
	unit, _ := stop.Unit(stop.Source{Place: x}, "U", f(4, 1))
	mixture, _ := stop.Mixture(stop.Source{Place: x}, "M", table)
	fitted, _ := stop.Fit(x, s, x.Keys)
	for _, result := range []api.Stop{unit, mixture, fitted} {
		for i := range result.Segments {
			before := copied(result)
			draws := result.Segments[i].Draws
			for k := range draws {
				draws[k] = d(-9, -9)
			}
			_ = append(draws, d(-8, -8))
			for j := range result.Segments {
				if j != i && !slices.Equal(result.Segments[j].Draws, before.Segments[j].Draws) {
					t.Errorf("the segment %d changes with %d", j, i)
				}
			}
			result.Segments[i].From = -9
		}
	}
	for key := 36; key <= 96; key++ {
		draws := stop.Draws(s, key)
		for k := range draws {
			draws[k] = d(-9, -9)
		}
		_ = append(draws, d(-8, -8))
		pipes := stop.Pipes(x.Ranks, s, key)
		for k := range pipes {
			pipes[k] = api.Pipe{Rank: -9}
		}
	}
	stop.Used(x, s)
	stop.Speaking(x, s)
	stop.Missing(x, s)
	stop.Keys(x, s, api.Pipe{})
	stop.Agrees(x, s)
	stop.Breaks(s)
	if !same(s, stops) || len(x.Ranks) != len(places.Ranks) || table[0].From != 36 || !slices.Equal(table[1].Feet, []api.Fraction{f(4, 1), f(8, 3)}) {
		t.Errorf("arguments became %v, %v and %v", x, s, table)
	}
	for i, r := range x.Ranks {
		if r.First != places.Ranks[i].First || !slices.Equal(r.Wind, places.Ranks[i].Wind) {
			t.Errorf("the rank %d became %v", i, r)
		}
	}
}
