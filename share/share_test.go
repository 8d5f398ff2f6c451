package share_test

import (
	"math"
	"math/rand"
	"reflect"
	"slices"
	"strconv"
	"testing"

	"bombarde/api"
	"bombarde/noteset"
	"bombarde/share"
)

// compass returns a compass.
func compass(low, high int) api.Compass { return api.Compass{Low: low, High: high} }

// row returns a right rank.
func row(name string, first, pipes int) api.Rank {
	return api.Rank{Name: name, Tone: "principal", Feet: api.Fraction{Num: 8, Den: 1}, First: first, Wind: make([]int, pipes)}
}

// seg returns a segment.
func seg(from, to int, draws ...api.Draw) api.Segment {
	return api.Segment{From: from, To: to, Draws: draws}
}

// d returns a draw.
func d(rank, shift int) api.Draw { return api.Draw{Rank: rank, Shift: shift} }

// stopOf returns a stop.
func stopOf(name string, segments ...api.Segment) api.Stop {
	return api.Stop{Name: name, Feet: api.Fraction{Num: 8, Den: 1}, Segments: segments}
}

// ref returns a stop by its division and index.
func ref(division, stop int) share.Ref { return share.Ref{Division: division, Stop: stop} }

// pipe returns a pipe.
func pipe(rank, number int) api.Pipe { return api.Pipe{Rank: rank, Number: number} }

// notes returns a set of notes.
func notes(l ...int) api.Notes {
	set, _ := noteset.Of(l)
	return set
}

// chapter returns the organ of the example of layer 18.
func chapter() api.Organ {
	great := api.Division{Name: "Great", Keys: compass(36, 48), Stops: []api.Stop{stopOf("Principal_8", seg(36, 48, d(0, 0))), stopOf("Octave_4", seg(36, 48, d(0, 12)))}}
	return api.Organ{Name: "Example", Ranks: []api.Rank{row("Open", 36, 25)}, Divisions: []api.Division{great}}
}

// borrowed returns an organ with stops of several divisions in chains of shared pipes, and with stops that share nothing, or have no pipes.
func borrowed() api.Organ {
	return api.Organ{
		Name:  "Borrowed",
		Ranks: []api.Rank{row("A", 36, 61), row("B", 36, 61), row("C", 36, 61)},
		Divisions: []api.Division{
			{Name: "Great", Keys: compass(36, 60), Stops: []api.Stop{stopOf("A", seg(36, 60, d(0, 0))), stopOf("C", seg(36, 60, d(2, 0))), stopOf("AB", seg(36, 40, d(0, 20), d(1, 0)), seg(41, 50, d(1, 12)))}},
			{Name: "Echo", Keys: compass(0, 20)},
			{Name: "Solo", Keys: compass(36, 72), Stops: []api.Stop{stopOf("None", seg(36, 72)), stopOf("B", seg(36, 72, d(1, 0))), stopOf("Far", seg(36, 37, d(2, 127))), stopOf("C", seg(36, 72, d(2, 24)))}},
			{Name: "Pedal", Pedal: true, Keys: compass(24, 36), Stops: []api.Stop{stopOf("C", seg(24, 36, d(2, 35), d(2, 48)))}},
		},
	}
}

// randomOrgan returns a right organ with few pipes.
func randomOrgan(random *rand.Rand) api.Organ {
	o := api.Organ{Name: "Random"}
	for i := range random.Intn(5) {
		o.Ranks = append(o.Ranks, row("R"+strconv.Itoa(i), 30+random.Intn(40), 1+random.Intn(20)))
	}
	for i := range 1 + random.Intn(3) {
		low := 30 + random.Intn(20)
		division := api.Division{Name: "D" + strconv.Itoa(i), Keys: compass(low, low+random.Intn(20))}
		for k := range random.Intn(4) {
			division.Stops = append(division.Stops, randomStop(random, "S"+strconv.Itoa(k), len(o.Ranks), division.Keys))
		}
		o.Divisions = append(o.Divisions, division)
	}
	return o
}

// randomStop returns a right stop.
func randomStop(random *rand.Rand, name string, ranks int, keys api.Compass) api.Stop {
	s := stopOf(name)
	from := keys.Low + random.Intn(keys.High-keys.Low+1)
	for len(s.Segments) == 0 || from <= keys.High {
		segment := seg(from, min(keys.High, from+random.Intn(20)))
		for range random.Intn(4) * min(1, ranks) {
			if draw := d(random.Intn(ranks), random.Intn(30)-10); !slices.Contains(segment.Draws, draw) {
				segment.Draws = append(segment.Draws, draw)
			}
		}
		s.Segments = append(s.Segments, segment)
		from = segment.To + 1 + random.Intn(4)
	}
	return s
}

// organs returns right organs.
func organs() []api.Organ {
	l := []api.Organ{chapter(), borrowed(), {Name: "A", Divisions: []api.Division{{Name: "B", Keys: compass(0, 0)}}}}
	random := rand.New(rand.NewSource(22))
	for range 200 {
		l = append(l, randomOrgan(random))
	}
	return l
}

// all returns all stops of an organ.
func all(o api.Organ) []share.Ref {
	var l []share.Ref
	for i, division := range o.Divisions {
		for k := range division.Stops {
			l = append(l, ref(i, k))
		}
	}
	return l
}

// touch is a key of a stop, with a pipe that it draws.
type touch struct {
	key int
	p   api.Pipe
}

// touches returns the keys of a stop with their pipes, in the order of keys and then of pipes.
func touches(o api.Organ, at share.Ref) []touch {
	var l []touch
	division := o.Divisions[at.Division]
	for key := division.Keys.Low; key <= division.Keys.High; key++ {
		for i, r := range o.Ranks {
			for n := range r.Wind {
				if draws(division.Stops[at.Stop], key, d(i, r.First+n-key)) {
					l = append(l, touch{key, pipe(i, n)})
				}
			}
		}
	}
	return l
}

// draws reports whether a key has a certain draw.
func draws(s api.Stop, key int, draw api.Draw) bool {
	return slices.ContainsFunc(s.Segments, func(segment api.Segment) bool {
		return segment.From <= key && key <= segment.To && slices.Contains(segment.Draws, draw)
	})
}

// uses reports whether a stop uses a pipe.
func uses(o api.Organ, at share.Ref, p api.Pipe) bool {
	return slices.ContainsFunc(touches(o, at), func(t touch) bool { return t.p == p })
}

// clashes returns the clashes of two stops.
func clashes(o api.Organ, a, b share.Ref) []share.Clash {
	var l []share.Clash
	second := touches(o, b)
	first := touches(o, a)
	for i := 0; i < len(first); {
		key, from := first[i].key, i
		for i < len(first) && first[i].key == key {
			i++
		}
		for _, t := range second {
			if slices.Contains(first[from:i], touch{key, t.p}) {
				l = append(l, share.Clash{KeyA: key, KeyB: t.key, Pipe: t.p})
			}
		}
	}
	return l
}

// expect compares what a function returns with what is wanted; no list is equal to an empty one.
func expect[T any](t *testing.T, what string, o api.Organ, got []T, e api.Errno, want []T) {
	t.Helper()
	if e != api.OK || len(got)+len(want) > 0 && !reflect.DeepEqual(got, want) {
		t.Errorf("%s of %v = %v, %d, not %v", what, o, got, e, want)
	}
}

// P22.1 to P22.3: the examples.
func TestExamples(t *testing.T) {
	o, a, b := chapter(), ref(0, 0), ref(0, 1)
	stops, e := share.Stops(o)
	expect(t, "Stops", o, stops, e, []share.Ref{a, b})
	for n, want := range map[int][]share.Ref{0: {a}, 11: {a}, 12: {a, b}, 13: {b}, 24: {b}} {
		l, e := share.Users(o, pipe(0, n))
		expect(t, "Users", o, l, e, want)
	}
	common, e := share.Common(o, a, b)
	expect(t, "Common", o, common, e, []api.Pipe{pipe(0, 12)})
	l, e := share.Clashes(o, a, b)
	expect(t, "Clashes", o, l, e, []share.Clash{{KeyA: 48, KeyB: 36, Pipe: pipe(0, 12)}})
	intervals, e := share.Intervals(o, a, b)
	expect(t, "Intervals", o, intervals, e, []int{-12})
	if keys, e := share.At(o, a, b, -12); keys != notes(48) || e != api.OK {
		t.Errorf("At = %v, %d", keys, e)
	}
	pairs, e := share.Pairs(o)
	expect(t, "Pairs", o, pairs, e, [][2]share.Ref{{a, b}})
	groups, e := share.Groups(o)
	expect(t, "Groups", o, groups, e, [][]share.Ref{{a, b}})
	if draws, pipes, e := share.Effective(o, api.Registration{Stops: []uint64{3}}, api.Keys{notes(36, 48)}); draws != 4 || pipes != 3 || e != api.OK {
		t.Errorf("Effective = %d, %d, %d", draws, pipes, e)
	}
}

// P22.1
func TestStopsAndUsers(t *testing.T) {
	for _, o := range organs() {
		l, e := share.Stops(o)
		expect(t, "Stops", o, l, e, all(o))
		for i, r := range o.Ranks {
			for n := range r.Wind {
				l, e := share.Users(o, pipe(i, n))
				want := slices.DeleteFunc(all(o), func(at share.Ref) bool { return !uses(o, at, pipe(i, n)) })
				expect(t, "Users", o, l, e, want)
			}
			for _, p := range []api.Pipe{pipe(i, -1), pipe(i, len(r.Wind)), pipe(i, math.MinInt), pipe(i, math.MaxInt), pipe(-1, 0), pipe(len(o.Ranks), 0), pipe(math.MinInt, 0), pipe(math.MaxInt, 0)} {
				if l, e := share.Users(o, p); len(l) != 0 || e != api.ErrUnknown {
					t.Errorf("Users of %v = %v, %d", p, l, e)
				}
			}
		}
	}
	if l, e := share.Users(organs()[2], pipe(0, 0)); len(l) != 0 || e != api.ErrUnknown {
		t.Errorf("Users without ranks = %v, %d", l, e)
	}
}

// pipesOf returns the pipes of clashes, each once, in order.
func pipesOf(o api.Organ, l []share.Clash) []api.Pipe {
	var pipes []api.Pipe
	for i, r := range o.Ranks {
		for n := range r.Wind {
			if slices.ContainsFunc(l, func(c share.Clash) bool { return c.Pipe == pipe(i, n) }) {
				pipes = append(pipes, pipe(i, n))
			}
		}
	}
	return pipes
}

// P22.2, P22.3, P22.6: what two stops share, against the definitions, also for a stop with itself, and for both exchanged.
func TestTwoStops(t *testing.T) {
	for _, o := range organs()[:60] {
		for _, a := range all(o) {
			for _, b := range all(o) {
				want := clashes(o, a, b)
				l, e := share.Clashes(o, a, b)
				expect(t, "Clashes", o, l, e, want)
				common, e := share.Common(o, a, b)
				expect(t, "Common", o, common, e, slices.DeleteFunc(pipesOf(o, want), func(p api.Pipe) bool { return !uses(o, a, p) || !uses(o, b, p) }))
				expect(t, "Common", o, common, e, pipesOf(o, want))
				back, e := share.Common(o, b, a)
				expect(t, "Common", o, back, e, common)
				intervals, e := share.Intervals(o, a, b)
				checkIntervals(t, o, a, b, want, intervals, e)
				opposite, _ := share.Intervals(o, b, a)
				slices.Reverse(opposite)
				for i := range opposite {
					opposite[i] = -opposite[i]
				}
				expect(t, "Intervals", o, opposite, e, intervals)
			}
		}
	}
}

// checkIntervals compares the intervals of two stops, and the keys at each one, with their clashes.
func checkIntervals(t *testing.T, o api.Organ, a, b share.Ref, l []share.Clash, intervals []int, e api.Errno) {
	t.Helper()
	var want []int
	for interval := -128; interval <= 128; interval++ {
		var keys []int
		for _, c := range l {
			if c.KeyB-c.KeyA == interval {
				keys = append(keys, c.KeyA)
			}
		}
		if len(keys) > 0 {
			want = append(want, interval)
		}
		if at, e := share.At(o, a, b, interval); at != notes(keys...) || e != api.OK {
			t.Errorf("At %d of %v and %v in %v = %v, %d, not %v", interval, a, b, o, at, e, keys)
		}
	}
	expect(t, "Intervals", o, intervals, e, want)
	for _, interval := range []int{math.MinInt, math.MaxInt, math.MinInt + 48, 1 << 40} {
		if at, e := share.At(o, a, b, interval); at != (api.Notes{}) || e != api.OK {
			t.Errorf("At %d = %v, %d", interval, at, e)
		}
	}
}

// P22.6: a stop with one draw clashes with itself at the interval 0 alone.
func TestOneDraw(t *testing.T) {
	for _, at := range []share.Ref{ref(0, 0), ref(0, 1)} {
		l, e := share.Intervals(chapter(), at, at)
		expect(t, "Intervals", chapter(), l, e, []int{0})
	}
	l, e := share.Intervals(borrowed(), ref(2, 2), ref(2, 2))
	expect(t, "Intervals", borrowed(), l, e, nil)
}

// P22.4
func TestPairs(t *testing.T) {
	l, e := share.Pairs(borrowed())
	expect(t, "Pairs", borrowed(), l, e, [][2]share.Ref{{ref(0, 0), ref(0, 2)}, {ref(0, 1), ref(2, 3)}, {ref(0, 1), ref(3, 0)}, {ref(0, 2), ref(2, 1)}, {ref(2, 3), ref(3, 0)}})
	for _, o := range organs() {
		var want [][2]share.Ref
		for i, a := range all(o) {
			for _, b := range all(o)[i+1:] {
				if len(clashes(o, a, b)) > 0 {
					want = append(want, [2]share.Ref{a, b})
				}
			}
		}
		l, e := share.Pairs(o)
		expect(t, "Pairs", o, l, e, want)
	}
}

// groups returns the groups of an organ, found by joining whole groups until nothing changes.
func groups(o api.Organ) [][]share.Ref {
	stops := all(o)
	group := make([]int, len(stops)) // of each stop the first one of its group
	for i := range group {
		group[i] = i
	}
	for changed := true; changed; {
		changed = false
		for i, a := range stops {
			for k, b := range stops {
				if group[i] < group[k] && len(clashes(o, a, b)) > 0 {
					group[k], changed = group[i], true
				}
			}
		}
	}
	var l [][]share.Ref
	for i := range stops {
		var members []share.Ref
		for k, at := range stops {
			if group[k] == i {
				members = append(members, at)
			}
		}
		if len(members) > 0 {
			l = append(l, members)
		}
	}
	return l
}

// P22.4
func TestGroups(t *testing.T) {
	l, e := share.Groups(borrowed())
	expect(t, "Groups", borrowed(), l, e, [][]share.Ref{{ref(0, 0), ref(0, 2), ref(2, 1)}, {ref(0, 1), ref(2, 3), ref(3, 0)}, {ref(2, 0)}, {ref(2, 2)}})
	for _, o := range organs() {
		l, e := share.Groups(o)
		expect(t, "Groups", o, l, e, groups(o))
	}
}
