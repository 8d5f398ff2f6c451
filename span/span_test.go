package span_test

import (
	"math"
	"math/bits"
	"math/rand"
	"slices"
	"testing"

	"bombarde/api"
	"bombarde/noteset"
	"bombarde/span"
)

// player is the one of the examples.
var player = api.Player{HandNotes: 5, HandSpan: 12, FootNotes: 2, FootSpan: 12}

// wrong has players that are not right.
var wrong = []api.Player{
	{HandNotes: -1}, {HandNotes: 11}, {HandSpan: -1}, {HandSpan: 128}, {FootNotes: -1}, {FootNotes: 11}, {FootSpan: -1}, {FootSpan: 128},
	{HandNotes: math.MinInt}, {HandSpan: math.MaxInt}, {FootNotes: math.MaxInt}, {FootSpan: math.MinInt}, {HandNotes: 5, HandSpan: 12, FootNotes: 2, FootSpan: 128},
}

// set returns the set of some notes.
func set(l ...int) api.Notes {
	s, _ := noteset.Of(l)
	return s
}

// all is the set of all notes.
var all = api.Notes{Low: math.MaxUint64, High: math.MaxUint64}

// players returns right players, with the limits among them.
func players() []api.Player {
	l := []api.Player{player, {}, {HandNotes: 10, HandSpan: 127, FootNotes: 10, FootSpan: 127}, {HandNotes: 1, FootNotes: 1}, {HandSpan: 127, FootSpan: 127}, {HandNotes: 10, FootNotes: 10}}
	r := rand.New(rand.NewSource(11))
	for range 30 {
		l = append(l, api.Player{HandNotes: r.Intn(6), HandSpan: r.Intn(15), FootNotes: r.Intn(6), FootSpan: r.Intn(15)})
	}
	return l
}

// sets returns sets of all kinds, many of which hands can hold.
func sets() []api.Notes {
	l := []api.Notes{{}, all, set(0), set(63), set(64), set(127), set(63, 64), set(0, 127), set(48, 55, 60, 64, 72), {Low: math.MaxUint64}, {High: math.MaxUint64}, {High: 1<<20 - 1}, {Low: 1<<21 - 1}}
	r := rand.New(rand.NewSource(12))
	for range 60 {
		from, notes := r.Intn(100), r.Intn(12)
		var s []int
		for range notes {
			s = append(s, from+r.Intn(28))
		}
		l = append(l, set(s...))
	}
	return l
}

// one is the definition of what one hand can hold, for a list in increasing order.
func one(p api.Player, l []int) bool {
	return len(l) <= p.HandNotes && (len(l) == 0 || l[len(l)-1]-l[0] <= p.HandSpan)
}

// two is the definition of what two hands can hold.
func two(p api.Player, l []int) bool {
	if len(l) > 2*p.HandNotes {
		return false
	}
	for choice := range 1 << len(l) {
		var a, b []int
		for i, n := range l {
			if choice>>i&1 == 1 {
				a = append(a, n)
			} else {
				b = append(b, n)
			}
		}
		if one(p, a) && one(p, b) {
			return true
		}
	}
	return false
}

// divisions is the definition of all divisions.
func divisions(p api.Player, l []int) [][2]api.Notes {
	var found [][2]api.Notes
	for i := range len(l) + 1 {
		if one(p, l[:i]) && one(p, l[i:]) {
			found = append(found, [2]api.Notes{set(l[:i]...), set(l[i:]...)})
		}
	}
	return found
}

// P11.1
func TestCheck(t *testing.T) {
	for _, p := range players() {
		if e := span.Check(p); e != api.OK {
			t.Errorf("Check(%v) = %d", p, e)
		}
	}
	for _, p := range wrong {
		if e := span.Check(p); e != api.ErrRange {
			t.Errorf("Check(%v) = %d", p, e)
		}
	}
}

// P11.1, P11.2, P11.3, P11.4, P11.5
func TestWrongPlayers(t *testing.T) {
	s := set(60)
	for _, p := range wrong {
		if is, e := span.One(p, api.Notes{}); is || e != api.ErrRange {
			t.Errorf("One(%v) = %t, %d", p, is, e)
		}
		if is, e := span.Feet(p, nil); is || e != api.ErrRange {
			t.Errorf("Feet(%v) = %t, %d", p, is, e)
		}
		if a, b, found, e := span.Two(p, s); a != (api.Notes{}) || b != (api.Notes{}) || found || e != api.ErrRange {
			t.Errorf("Two(%v) = %v, %v, %t, %d", p, a, b, found, e)
		}
		if l, e := span.All(p, s); len(l) != 0 || e != api.ErrRange {
			t.Errorf("All(%v) = %v, %d", p, l, e)
		}
		if n, found, e := span.Least(p, set(60, 70)); n != 0 || found || e != api.ErrRange {
			t.Errorf("Least(%v) = %d, %t, %d", p, n, found, e)
		}
		// Errors of the other arguments come behind that of the player.
		if is, e := span.Possible(p, nil, api.Keys{s}); is || e != api.ErrRange {
			t.Errorf("Possible(%v) = %t, %d", p, is, e)
		}
		if n, e := span.Count(p, api.Compass{Low: 1}); n != 0 || e != api.ErrRange {
			t.Errorf("Count(%v) = %d, %d", p, n, e)
		}
	}
}

// P11.1
func TestOne(t *testing.T) {
	for _, p := range players() {
		for _, s := range sets() {
			if is, e := span.One(p, s); is != one(p, noteset.Members(s)) || e != api.OK {
				t.Errorf("One(%v, %v) = %t, %d", p, noteset.Members(s), is, e)
			}
		}
	}
	for _, c := range []struct {
		s  api.Notes
		is bool
	}{{set(), true}, {set(48, 60), true}, {set(48, 61), false}, {set(60, 61, 62, 63, 64), true}, {set(60, 61, 62, 63, 64, 65), false}, {set(58, 70), true}, {set(58, 71), false}} {
		if is, e := span.One(player, c.s); is != c.is || e != api.OK {
			t.Errorf("One(%v) = %t, %d", noteset.Members(c.s), is, e)
		}
	}
}

// P11.1
func TestFeet(t *testing.T) {
	many := make([]api.Notes, 1000)
	for _, c := range []struct {
		l  []api.Notes
		is bool
	}{
		{nil, true}, {[]api.Notes{{}}, true}, {many, true}, {[]api.Notes{set(36, 48)}, true}, {[]api.Notes{set(36, 49)}, false}, {[]api.Notes{set(36, 40, 43)}, false},
		{[]api.Notes{set(36), {}, set(48)}, true}, {[]api.Notes{set(36), set(49)}, false}, {[]api.Notes{set(49), set(36)}, false},
		{[]api.Notes{set(36), set(36)}, true}, {[]api.Notes{set(36), set(36), set(36)}, false}, {[]api.Notes{set(36, 37), set(36)}, false},
		{[]api.Notes{all}, false}, {append(many, set(36, 37), set(38)), false},
	} {
		if is, e := span.Feet(player, c.l); is != c.is || e != api.OK {
			t.Errorf("Feet(%v) = %t, %d", c.l, is, e)
		}
	}
	r := rand.New(rand.NewSource(13))
	for _, p := range players() {
		for range 100 {
			var l []api.Notes
			var notes []int
			for range r.Intn(4) {
				var s []int
				for range r.Intn(3) {
					s = append(s, 55+r.Intn(15))
				}
				l = append(l, set(s...))
				notes = append(notes, noteset.Members(set(s...))...)
			}
			want := len(notes) <= p.FootNotes && (len(notes) == 0 || slices.Max(notes)-slices.Min(notes) <= p.FootSpan)
			if is, e := span.Feet(p, l); is != want || e != api.OK {
				t.Errorf("Feet(%v, %v) = %t, %d", p, l, is, e)
			}
		}
	}
}

// P11.2, P11.6
func TestTwoAndAll(t *testing.T) {
	for _, p := range players() {
		for _, s := range sets() {
			l := noteset.Members(s)
			want := divisions(p, l)
			got, e := span.All(p, s)
			if !slices.Equal(got, want) || e != api.OK {
				t.Errorf("All(%v, %v) = %v, %d", p, l, got, e)
			}
			left, right, found, e := span.Two(p, s)
			if e != api.OK || found != (len(want) > 0) || found && (left != want[0][0] || right != want[0][1]) || !found && (left != right || left != api.Notes{}) {
				t.Errorf("Two(%v, %v) = %v, %v, %t, %d", p, l, left, right, found, e)
			}
			if len(l) <= 12 && found != two(p, l) {
				t.Errorf("Two(%v, %v): crossing hands helps", p, l)
			}
			for _, d := range got {
				if noteset.Union(d[0], d[1]) != s || noteset.Both(d[0], d[1]) != (api.Notes{}) {
					t.Errorf("All(%v, %v) = %v", p, l, got)
				}
			}
			if is, _ := span.One(p, s); is && !found {
				t.Errorf("one hand can hold %v, and two cannot", l)
			}
		}
	}
	example := set(48, 55, 60, 64, 72)
	if l, e := span.All(player, example); e != api.OK || !slices.Equal(l, [][2]api.Notes{{set(48, 55), set(60, 64, 72)}, {set(48, 55, 60), set(64, 72)}}) {
		t.Errorf("All = %v, %d", l, e)
	}
	if l, e := span.All(api.Player{}, api.Notes{}); e != api.OK || !slices.Equal(l, make([][2]api.Notes, 1)) {
		t.Errorf("All of the empty set = %v, %d", l, e)
	}
}

// P11.3
func TestLeast(t *testing.T) {
	for _, p := range players() {
		for _, s := range sets() {
			want, possible := 0, false
			for q := p; want <= api.MaxNote; want++ {
				q.HandSpan = want
				if _, _, possible, _ = span.Two(q, s); possible {
					break
				}
			}
			if !possible {
				want = 0
			}
			if n, found, e := span.Least(p, s); n != want || found != possible || e != api.OK {
				t.Errorf("Least(%v, %v) = %d, %t, %d, not %d, %t", p, noteset.Members(s), n, found, e, want, possible)
			}
		}
	}
	if n, found, e := span.Least(player, set(48, 55, 60, 64, 72)); n != 12 || !found || e != api.OK {
		t.Errorf("Least = %d, %t, %d", n, found, e)
	}
	if n, found, e := span.Least(api.Player{HandNotes: 10}, set(0, 127)); n != 0 || !found || e != api.OK {
		t.Errorf("Least of two notes = %d, %t, %d", n, found, e)
	}
	if n, found, e := span.Least(api.Player{HandNotes: 2}, set(0, 60, 127)); n != 60 || !found || e != api.OK {
		t.Errorf("Least of three notes = %d, %t, %d", n, found, e)
	}
}

// division returns a division with a compass.
func division(pedal bool, low, high int) api.Division {
	return api.Division{Pedal: pedal, Keys: api.Compass{Low: low, High: high}}
}

// P11.4
func TestPossible(t *testing.T) {
	manual, pedal := division(false, 36, 96), division(true, 24, 60)
	l := []api.Division{manual, pedal, manual, manual, pedal}
	chord, wide, six := set(60, 64, 67), set(48, 55, 60, 64, 72), set(60, 61, 62, 63, 64, 65)
	for i, c := range []struct {
		k  api.Keys
		is bool
	}{
		{api.Keys{{}, {}, {}, {}, {}}, true},
		{api.Keys{wide, {}, {}, {}, {}}, true},
		{api.Keys{{}, {}, {}, wide, {}}, true},
		{api.Keys{six, {}, {}, {}, {}}, true},
		{api.Keys{chord, {}, {}, chord, {}}, true},
		{api.Keys{chord, {}, wide, {}, {}}, false},
		{api.Keys{wide, {}, chord, {}, {}}, false},
		{api.Keys{six, {}, chord, {}, {}}, false},
		{api.Keys{set(60), {}, set(60), set(60), {}}, false},
		{api.Keys{chord, set(36), chord, {}, set(48)}, true},
		{api.Keys{chord, set(36), chord, {}, set(49)}, false},
		{api.Keys{{}, set(36), {}, {}, set(36)}, true},
		{api.Keys{{}, set(36, 37), {}, {}, set(36)}, false},
		{api.Keys{set(36, 96), {}, {}, {}, {}}, true},
		{api.Keys{set(36, 60, 96), {}, {}, {}, {}}, false},
	} {
		if is, e := span.Possible(player, l, c.k); is != c.is || e != api.OK {
			t.Errorf("%d: Possible = %t, %d", i, is, e)
		}
	}
	if is, e := span.Possible(api.Player{}, nil, nil); !is || e != api.OK {
		t.Errorf("Possible without divisions = %t, %d", is, e)
	}
	many := make([]api.Division, 20) // more than an organ has
	if is, e := span.Possible(player, many, make(api.Keys, 20)); !is || e != api.OK {
		t.Errorf("Possible = %t, %d", is, e)
	}
}

// P11.4
func TestPossibleErrors(t *testing.T) {
	good, turned, low, high := division(false, 36, 96), division(true, 60, 59), division(false, -1, 5), division(true, 5, 128)
	for i, c := range []struct {
		l []api.Division
		k api.Keys
		e api.Errno
	}{
		{[]api.Division{good}, nil, api.ErrSize},
		{nil, api.Keys{{}}, api.ErrSize},
		{[]api.Division{low}, api.Keys{{}, {}}, api.ErrSize},
		{[]api.Division{low}, api.Keys{{}}, api.ErrRange},
		{[]api.Division{high}, api.Keys{all}, api.ErrRange},
		{[]api.Division{turned}, api.Keys{{}}, api.ErrCompass},
		{[]api.Division{turned, low}, api.Keys{{}, {}}, api.ErrCompass},
		{[]api.Division{low, turned}, api.Keys{{}, {}}, api.ErrRange},
		{[]api.Division{good}, api.Keys{set(35)}, api.ErrCompass},
		{[]api.Division{good}, api.Keys{set(97)}, api.ErrCompass},
		{[]api.Division{good, low}, api.Keys{set(60, 97), {}}, api.ErrCompass},
		{[]api.Division{low, good}, api.Keys{{}, set(97)}, api.ErrRange},
		{[]api.Division{good, good, good}, api.Keys{set(60), set(60), set(35)}, api.ErrCompass},
		{[]api.Division{good, good, good, high}, api.Keys{set(60), set(60), set(60), {}}, api.ErrRange},
	} {
		if is, e := span.Possible(player, c.l, c.k); is || e != c.e {
			t.Errorf("%d: Possible = %t, %d", i, is, e)
		}
	}
}

// P11.5, P11.6
func TestCount(t *testing.T) {
	for _, c := range []struct {
		p     api.Player
		low   int
		high  int
		count int
	}{
		{player, 60, 62, 8}, {api.Player{HandNotes: 1, HandSpan: 12}, 60, 62, 7}, {api.Player{}, 0, 15, 1}, {api.Player{HandNotes: 8, HandSpan: 15}, 112, 127, 1 << 16},
		{api.Player{HandNotes: 1}, 60, 75, 1 + 16 + 120}, {player, 127, 127, 2}, {api.Player{HandNotes: 10, HandSpan: 127}, 56, 71, 1 << 16},
	} {
		if n, e := span.Count(c.p, api.Compass{Low: c.low, High: c.high}); n != c.count || e != api.OK {
			t.Errorf("Count(%v, %d, %d) = %d, %d", c.p, c.low, c.high, n, e)
		}
	}
	for _, p := range players() {
		want := 0
		for s := range uint64(1) << 10 {
			if two(p, noteset.Members(api.Notes{Low: s})) {
				want++
			}
		}
		for _, low := range []int{0, 59, 118} {
			if n, e := span.Count(p, api.Compass{Low: low, High: low + 9}); n != want || e != api.OK {
				t.Errorf("Count(%v) = %d, %d, not %d", p, n, e, want)
			}
		}
	}
	for i, c := range []struct {
		low, high int
		e         api.Errno
	}{{60, 76, api.ErrLimit}, {0, 127, api.ErrLimit}, {-1, 5, api.ErrRange}, {-1, 100, api.ErrRange}, {5, 128, api.ErrRange}, {61, 60, api.ErrCompass}, {127, 0, api.ErrCompass}, {math.MinInt, math.MaxInt, api.ErrRange}} {
		if n, e := span.Count(player, api.Compass{Low: c.low, High: c.high}); n != 0 || e != c.e {
			t.Errorf("%d: Count = %d, %d", i, n, e)
		}
	}
}

// greater returns players who can hold at least as much.
func greater(p api.Player) []api.Player {
	l := []api.Player{p, p}
	l[0].HandNotes = min(p.HandNotes+1, span.MaxHold)
	l[1].HandSpan = min(p.HandSpan+1, api.MaxNote)
	return l
}

// P11.6
func TestConsequences(t *testing.T) {
	r := rand.New(rand.NewSource(14))
	for _, p := range players() {
		for _, s := range sets() {
			_, _, found, _ := span.Two(p, s)
			part := noteset.Both(s, api.Notes{Low: r.Uint64(), High: r.Uint64()})
			if _, _, is, _ := span.Two(p, part); found && !is {
				t.Errorf("%v can hold %v, and not its part %v", p, s, part)
			}
			for _, q := range greater(p) {
				if _, _, is, _ := span.Two(q, s); found && !is {
					t.Errorf("%v can hold %v, and %v cannot", p, s, q)
				}
			}
			for _, by := range []int{-1, 1, 7, -64, 64, 30} {
				moved := noteset.Shift(s, by)
				if noteset.Count(moved) < noteset.Count(s) {
					continue
				}
				_, _, is, _ := span.Two(p, moved)
				a, aFound, _ := span.Least(p, s)
				b, bFound, _ := span.Least(p, moved)
				if is != found || a != b || aFound != bFound {
					t.Errorf("%v moved by %d: %t, %d", s, by, is, b)
				}
			}
		}
		least, _ := span.Count(p, api.Compass{Low: 40, High: 49})
		for _, q := range greater(p) {
			if n, _ := span.Count(q, api.Compass{Low: 40, High: 49}); n < least {
				t.Errorf("%v can hold %d sets, and %v %d", p, least, q, n)
			}
		}
	}
}

// P11.5
func TestCountOfSmallHands(t *testing.T) {
	// With hands that are wide enough only the numbers of notes count.
	for hand := range 9 {
		want := 0
		for s := range uint(1) << 16 {
			if bits.OnesCount(s) <= 2*hand {
				want++
			}
		}
		if n, e := span.Count(api.Player{HandNotes: hand, HandSpan: 15}, api.Compass{Low: 60, High: 75}); n != want || e != api.OK {
			t.Errorf("Count with %d notes = %d, %d, not %d", hand, n, e, want)
		}
	}
}
