package rank_test

import (
	"math"
	"slices"
	"testing"

	"bombarde/api"
	"bombarde/pitch"
	"bombarde/rank"
)

// isZero reports whether no field of a rank is set.
func isZero(r api.Rank) bool { return rank.Equal(r, api.Rank{}) }

// expect compares a rank with what is wanted.
func expect(t *testing.T, what string, r api.Rank, e api.Errno, want api.Rank) {
	t.Helper()
	if !rank.Equal(r, want) || e != api.OK {
		t.Errorf("%s = %v, %d, not %v", what, r, e, want)
	}
}

// fail compares an error with what is wanted.
func fail(t *testing.T, what string, r api.Rank, e, want api.Errno) {
	t.Helper()
	if !isZero(r) || e != want {
		t.Errorf("%s = %v, %d, not %d", what, r, e, want)
	}
}

// P14.4 to P14.6, P1: the error of a wrong rank comes before all others, and that of the first one before that of the second one.
func TestChangesOfWrongRanks(t *testing.T) {
	for i, c := range wrongs() {
		r, e := rank.Slice(c.r, 0, 1)
		fail(t, "Slice", r, e, c.e)
		r, e = rank.Slice(c.r, -1, 0)
		fail(t, "Slice", r, e, c.e)
		for _, wind := range [][]int{nil, {1}, {-1}, make([]int, 200)} {
			r, e = rank.Below(c.r, wind)
			fail(t, "Below", r, e, c.e)
			r, e = rank.Above(c.r, wind)
			fail(t, "Above", r, e, c.e)
		}
		for _, feet := range []api.Fraction{f(8, 1), f(8, 0), f(0, 1), f(1, 500)} {
			r, e = rank.Repitch(c.r, feet)
			fail(t, "Repitch", r, e, c.e)
		}
		r, e = rank.Join(c.r, row(97, 3))
		fail(t, "Join", r, e, c.e)
		r, e = rank.Join(row(-25, 61), c.r)
		fail(t, "Join", r, e, c.e)
		other := wrongs()[(i+7)%len(wrongs())]
		r, e = rank.Join(c.r, other.r)
		fail(t, "Join", r, e, c.e)
	}
}

// P14.4
func TestSlice(t *testing.T) {
	r, e := rank.Slice(row(36, 61), 12, 49)
	expect(t, "Slice", r, e, api.Rank{Name: "Principal", Tone: "principal", Feet: f(8, 1), First: 48, Wind: winds(61)[12:]})
	for _, r := range some() {
		for from := range r.Wind {
			for _, pipes := range []int{1, 2, 5, len(r.Wind) - from - 1, len(r.Wind) - from} {
				got, e := rank.Slice(r, from, pipes)
				if pipes < 1 || from+pipes > len(r.Wind) {
					fail(t, "Slice", got, e, api.ErrRange)
					continue
				}
				// The first note of the last pipes can be greater than MaxFirst: the chapter names no error for it.
				want := api.Rank{Name: r.Name, Tone: r.Tone, Feet: r.Feet, First: r.First + from, Wind: r.Wind[from : from+pipes]}
				expect(t, "Slice", got, e, want)
			}
			for _, pipes := range []int{0, -1, math.MinInt, len(r.Wind) - from + 1, 129, math.MaxInt, math.MaxInt - from} {
				got, e := rank.Slice(r, from, pipes)
				fail(t, "Slice", got, e, api.ErrRange)
			}
		}
		for _, from := range none(r) {
			for _, pipes := range []int{1, 0, 500, math.MaxInt} {
				got, e := rank.Slice(r, from, pipes)
				fail(t, "Slice", got, e, api.ErrUnknown)
			}
		}
	}
}

// P14.5
func TestBelowAndAbove(t *testing.T) {
	r, e := rank.Below(row(36, 61), winds(12))
	expect(t, "Below", r, e, api.Rank{Name: "Principal", Tone: "principal", Feet: f(8, 1), First: 24, Wind: append(winds(12), winds(61)...)})
	r, e = rank.Above(row(36, 3), []int{7, 8})
	expect(t, "Above", r, e, api.Rank{Name: "Principal", Tone: "principal", Feet: f(8, 1), First: 36, Wind: []int{1000, 997, 994, 7, 8}})
	for _, r := range some() {
		for _, n := range []int{0, 1, 2, 7, 30, 128 - len(r.Wind), 129 - len(r.Wind), 128} {
			wind := winds(n)
			below, e := rank.Below(r, wind)
			switch {
			case n+len(r.Wind) > 128:
				fail(t, "Below", below, e, api.ErrLimit)
			case r.First-n < -256:
				fail(t, "Below", below, e, api.ErrRange)
			default:
				expect(t, "Below", below, e, with(r, func(x *api.Rank) { x.First, x.Wind = r.First-n, slices.Concat(wind, r.Wind) }))
			}
			above, e := rank.Above(r, wind)
			if n+len(r.Wind) > 128 {
				fail(t, "Above", above, e, api.ErrLimit)
			} else {
				expect(t, "Above", above, e, with(r, func(x *api.Rank) { x.Wind = slices.Concat(r.Wind, wind) }))
			}
		}
	}
}

// P14.5: the ends of what is right, and the order of the errors.
func TestFurtherErrors(t *testing.T) {
	extreme := []int{0, api.MaxWind}
	for _, c := range []struct {
		r            api.Rank
		wind         []int
		below, above api.Errno
	}{
		{row(36, 1), extreme, api.OK, api.OK}, {row(36, 1), []int{0, -1}, api.ErrRange, api.ErrRange}, {row(36, 1), []int{api.MaxWind + 1, 0}, api.ErrRange, api.ErrRange}, {row(36, 1), []int{math.MinInt}, api.ErrRange, api.ErrRange}, {row(36, 1), []int{math.MaxInt}, api.ErrRange, api.ErrRange},
		{row(36, 126), extreme, api.OK, api.OK}, {row(36, 127), extreme, api.ErrLimit, api.ErrLimit}, {row(36, 128), nil, api.OK, api.OK}, {row(36, 1), make([]int, 127), api.OK, api.OK}, {row(36, 1), make([]int, 128), api.ErrLimit, api.ErrLimit},
		{row(-254, 5), extreme, api.OK, api.OK}, {row(-255, 5), extreme, api.ErrRange, api.OK}, {row(-256, 5), nil, api.OK, api.OK}, {row(-256, 128), []int{1}, api.ErrLimit, api.ErrLimit}, {row(256, 5), extreme, api.OK, api.OK},
		{row(-256, 128), []int{-1}, api.ErrRange, api.ErrRange}, {row(36, 61), slices.Repeat([]int{-1}, 100), api.ErrRange, api.ErrRange}, {row(36, 61), append(make([]int, 300), -1), api.ErrRange, api.ErrRange},
	} {
		r, e := rank.Below(c.r, c.wind)
		if e != c.below || (e != api.OK && !isZero(r)) || (e == api.OK && rank.Check(r) != api.OK) {
			t.Errorf("Below(%v, %v) = %v, %d", c.r, c.wind, r, e)
		}
		r, e = rank.Above(c.r, c.wind)
		if e != c.above || (e != api.OK && !isZero(r)) || (e == api.OK && rank.Check(r) != api.OK) {
			t.Errorf("Above(%v, %v) = %v, %d", c.r, c.wind, r, e)
		}
	}
}

// P14.5
func TestJoin(t *testing.T) {
	a := row(36, 12)
	other := func(first, pipes int, change func(r *api.Rank)) api.Rank { return with(row(first, pipes), change) }
	name := func(r *api.Rank) { r.Name = "Octave" }
	b := other(48, 5, name)
	r, e := rank.Join(a, b)
	expect(t, "Join", r, e, api.Rank{Name: "Principal", Tone: "principal", Feet: f(8, 1), First: 36, Wind: append(winds(12), winds(5)...)})
	tone, feet := func(r *api.Rank) { r.Tone = "flute" }, func(r *api.Rank) { r.Feet = f(4, 1) }
	for _, c := range []struct {
		a, b api.Rank
		e    api.Errno
	}{
		{a, other(48, 5, tone), api.ErrConflict}, {a, other(48, 5, feet), api.ErrConflict}, {a, other(50, 120, tone), api.ErrConflict}, {a, other(50, 120, feet), api.ErrConflict},
		{a, row(47, 5), api.ErrOrder}, {a, row(49, 5), api.ErrOrder}, {a, row(36, 5), api.ErrOrder}, {a, row(31, 5), api.ErrOrder}, {a, row(30, 120), api.ErrOrder}, {a, row(49, 128), api.ErrOrder},
		{a, row(48, 116), api.OK}, {a, row(48, 117), api.ErrLimit}, {row(-256, 127), row(-129, 1), api.OK}, {row(128, 128), row(256, 1), api.ErrLimit}, {row(200, 56), row(256, 72), api.OK}, {row(200, 56), row(256, 73), api.ErrLimit},
	} {
		if r, e := rank.Join(c.a, c.b); e != c.e || (e != api.OK && !isZero(r)) || (e == api.OK && rank.Check(r) != api.OK) {
			t.Errorf("Join of %d pipes from %d on and %d from %d on = %v, %d, not %d", len(c.a.Wind), c.a.First, len(c.b.Wind), c.b.First, r, e, c.e)
		}
	}
}

// P14.6
func TestRepitch(t *testing.T) {
	r, e := rank.Repitch(row(24, 73), f(16, 1))
	expect(t, "Repitch", r, e, api.Rank{Name: "Principal", Tone: "principal", Feet: f(16, 1), First: 36, Wind: winds(73)})
	for _, r := range some() {
		for _, feet := range append(pitch.Usual(), f(128, 1), f(1, 128), f(3, 1), f(100, 7)) {
			shift, _ := pitch.Shift(feet, r.Feet)
			got, e := rank.Repitch(r, feet)
			if first := r.First - shift; first < -256 || first > 256 {
				fail(t, "Repitch", got, e, api.ErrRange)
			} else {
				expect(t, "Repitch", got, e, with(r, func(x *api.Rank) { x.First, x.Feet = first, feet }))
			}
		}
	}
	for _, c := range []struct {
		first int
		feet  api.Fraction
		e     api.Errno
	}{
		{-256, f(4, 1), api.ErrRange}, {-245, f(4, 1), api.ErrRange}, {-244, f(4, 1), api.OK}, {256, f(16, 1), api.ErrRange}, {245, f(16, 1), api.ErrRange}, {244, f(16, 1), api.OK}, {-256, f(16, 1), api.OK}, {256, f(4, 1), api.OK},
		{-256, f(16, 2), api.ErrNumber}, {-256, f(1, 0), api.ErrNumber}, {256, api.Fraction{}, api.ErrNumber}, {256, f(0, 1), api.ErrRange}, {36, f(-8, 1), api.ErrRange}, {36, f(129, 1), api.ErrRange}, {-256, f(1, 129), api.ErrLimit}, {36, f(1, math.MinInt), api.ErrNumber},
	} {
		if r, e := rank.Repitch(row(c.first, 5), c.feet); e != c.e || (e != api.OK && !isZero(r)) {
			t.Errorf("Repitch from %d on at %v = %v, %d", c.first, c.feet, r, e)
		}
	}
}

// P14.7
func TestConsequences(t *testing.T) {
	for _, r := range some() {
		for n := range r.Wind {
			note, _ := rank.Note(r, n)
			if number, found, e := rank.Number(r, note); number != n || !found || e != api.OK {
				t.Errorf("the pipe %d is for the note %d, which has the pipe %d, %t, %d", n, note, number, found, e)
			}
			if n == 0 || r.First+n > rank.MaxFirst {
				continue
			}
			low, e1 := rank.Slice(r, 0, n)
			high, e2 := rank.Slice(r, n, len(r.Wind)-n)
			whole, e := rank.Join(low, high)
			expect(t, "Join of both parts", whole, max(e, e1, e2), r)
			x, _ := rank.Total(low)
			y, _ := rank.Total(high)
			if total, e := rank.Total(whole); total != x+y || e != api.OK {
				t.Errorf("the totals %d and %d give %d, %d", x, y, total, e)
			}
		}
		if further := min(20, 128-len(r.Wind), 256+r.First); further > 0 {
			below, _ := rank.Below(r, winds(further))
			again, e := rank.Slice(below, further, len(r.Wind))
			expect(t, "Slice of what is not below", again, e, r)
		}
		same, e := rank.Repitch(r, r.Feet)
		expect(t, "Repitch to the same feet", same, e, r)
		repitchedSounds(t, r)
	}
}

// repitchedSounds checks that the pipes of repitched ranks sound what they sounded, where the shifts fit.
func repitchedSounds(t *testing.T, r api.Rank) {
	t.Helper()
	for _, feet := range pitch.Usual() {
		other, e := rank.Repitch(r, feet)
		x, _ := pitch.Shift(r.Feet, f(8, 1))
		y, _ := pitch.Shift(feet, f(8, 1))
		z, _ := pitch.Shift(feet, r.Feet)
		if e != api.OK || y != x+z {
			continue
		}
		for n := range r.Wind {
			a, isA, _ := rank.Sounding(r, n)
			b, isB, e := rank.Sounding(other, n)
			if a != b || isA != isB || e != api.OK {
				t.Errorf("the pipe %d sounds %d, %t at %v, and %d, %t, %d at %v", n, a, isA, r.Feet, b, isB, e, feet)
			}
		}
	}
}

// P14.4 to P14.6, P1: arguments stay as they are, and share no memory with results.
func TestMemory(t *testing.T) {
	a, b := row(36, 12), row(48, 5)
	// Further memory behind the winds must not be written to.
	spare := slices.Concat(winds(12), []int{-7, -7, -7, -7})
	a.Wind = spare[:12]
	further := []int{5, 6}
	slice, _ := rank.Slice(a, 3, 4)
	all, _ := rank.Slice(a, 0, 12)
	below, _ := rank.Below(a, further)
	above, _ := rank.Above(a, further)
	equal, _ := rank.Below(a, nil)
	same, _ := rank.Above(a, nil)
	joined, _ := rank.Join(a, b)
	repitched, _ := rank.Repitch(a, f(4, 1))
	results := []api.Rank{slice, all, below, above, equal, same, joined, repitched}
	for i, r := range results {
		copies := make([][]int, len(results))
		for j := range results {
			copies[j] = slices.Clone(results[j].Wind)
		}
		for k := range r.Wind {
			r.Wind[k] = -100 - i
		}
		r.Wind = append(r.Wind, -1000)
		for j := range results {
			if j != i && !slices.Equal(results[j].Wind, copies[j]) {
				t.Errorf("the result %d changes with %d", j, i)
			}
		}
	}
	if !slices.Equal(spare, slices.Concat(winds(12), []int{-7, -7, -7, -7})) || !slices.Equal(further, []int{5, 6}) || !rank.Equal(b, row(48, 5)) {
		t.Errorf("arguments became %v, %v and %v", spare, further, b)
	}
}
