package noteset_test

import (
	"math"
	"math/rand"
	"slices"
	"strings"
	"testing"

	"bombarde/api"
	"bombarde/noteset"
)

// all is the set of all notes.
var all = api.Notes{Low: math.MaxUint64, High: math.MaxUint64}

// some returns sets of all kinds: none and all notes, ends, halves, and mixed ones.
func some() []api.Notes {
	l := []api.Notes{{}, all, {Low: 1}, {Low: 1 << 63}, {High: 1}, {High: 1 << 63}, {Low: math.MaxUint64}, {High: math.MaxUint64}, {Low: 1 << 63, High: 1}, {Low: 1, High: 1 << 63}}
	random := rand.New(rand.NewSource(4))
	for range 20 {
		l = append(l, api.Notes{Low: random.Uint64(), High: random.Uint64()}, api.Notes{Low: random.Uint64() & random.Uint64() & random.Uint64(), High: random.Uint64() & random.Uint64() & random.Uint64()})
	}
	return l
}

// bit reports whether a note is in a set, as sets are defined.
func bit(s api.Notes, n int) bool {
	if n < 64 {
		return n >= 0 && s.Low>>n&1 == 1
	}
	return n < 128 && s.High>>(n-64)&1 == 1
}

// notes returns the set of the notes of which a condition holds, as sets are defined.
func notes(holds func(n int) bool) api.Notes {
	var s api.Notes
	for k := range 64 {
		if holds(k) {
			s.Low |= 1 << k
		}
		if holds(64 + k) {
			s.High |= 1 << k
		}
	}
	return s
}

// P3.1
func TestNames(t *testing.T) {
	letters := strings.Fields("C C# D D# E F F# G G# A A# B")
	octaves := strings.Fields("-1 0 1 2 3 4 5 6 7 8 9")
	for n := range 128 {
		want := letters[n%12] + octaves[n/12]
		if s, e := noteset.Name(n); s != want || e != api.OK {
			t.Errorf("Name(%d) = %q, %d", n, s, e)
		}
		if k, e := noteset.Note(want); k != n || e != api.OK {
			t.Errorf("Note(%q) = %d, %d", want, k, e)
		}
	}
	for _, n := range []int{-1, 128, -12, math.MinInt, math.MaxInt} {
		if s, e := noteset.Name(n); s != "" || e != api.ErrRange {
			t.Errorf("Name(%d) = %q, %d", n, s, e)
		}
	}
	for _, s := range []string{"", "C", "C#", "#", "#4", "4", "-1", "Db4", "C04", "C4 ", " C4", "G#9", "A9", "A#9", "B9", "C10", "C-2", "C-", "C--1", "C-0", "C+1", "C-01", "C4#", "c4", "E#4", "B#4", "H4", "C##4", "C 4", "C♯4", "C:", "C/", "C-10", "CC4", "C4C4", "\x00", strings.Repeat("C", 100000)} {
		if n, e := noteset.Note(s); n != 0 || e != api.ErrName {
			t.Errorf("Note(%q) = %d, %d", s, n, e)
		}
	}
}

// P3.2
func TestOf(t *testing.T) {
	l := []int{67, 60, 127, 0, 64, 63, 60}
	s, e := noteset.Of(l)
	if want := notes(func(n int) bool { return slices.Contains(l, n) }); s != want || e != api.OK {
		t.Errorf("Of(%v) = %v, %d", l, s, e)
	}
	if !slices.Equal(l, []int{67, 60, 127, 0, 64, 63, 60}) {
		t.Errorf("Of changed its argument to %v", l)
	}
	for _, l := range [][]int{nil, {}} {
		if s, e := noteset.Of(l); s != (api.Notes{}) || e != api.OK {
			t.Errorf("Of(%v) = %v, %d", l, s, e)
		}
	}
	for _, l := range [][]int{{-1}, {128}, {3, -1}, {60, 128, 61}, {math.MinInt}, {math.MaxInt}, {0, 127, 128}} {
		if s, e := noteset.Of(l); s != (api.Notes{}) || e != api.ErrRange {
			t.Errorf("Of(%v) = %v, %d", l, s, e)
		}
	}
}

// P3.2
func TestRangeAndCheckCompass(t *testing.T) {
	for low := range 128 {
		for high := range 128 {
			c := api.Compass{Low: low, High: high}
			var want api.Notes
			wantError := api.ErrCompass
			if low <= high {
				want, wantError = notes(func(n int) bool { return low <= n && n <= high }), api.OK
			}
			if s, e := noteset.Range(c); s != want || e != wantError || noteset.CheckCompass(c) != wantError {
				t.Errorf("Range(%v) = %v, %d, CheckCompass = %d", c, s, e, noteset.CheckCompass(c))
			}
		}
	}
	for _, c := range []api.Compass{{Low: -1, High: 5}, {Low: 5, High: 128}, {Low: -1, High: 128}, {Low: -1, High: -2}, {Low: 129, High: 128}, {Low: math.MinInt, High: math.MaxInt}, {Low: math.MaxInt, High: math.MaxInt}, {Low: math.MinInt, High: math.MinInt}} {
		if s, e := noteset.Range(c); s != (api.Notes{}) || e != api.ErrRange || noteset.CheckCompass(c) != api.ErrRange {
			t.Errorf("Range(%v) = %v, %d, CheckCompass = %d", c, s, e, noteset.CheckCompass(c))
		}
	}
	for _, c := range []api.Compass{{Low: 5, High: -1}, {Low: 128, High: 5}, {Low: math.MaxInt, High: math.MinInt}} { // not out of range at the end that is looked at
		if s, e := noteset.Range(c); s != (api.Notes{}) || e != api.ErrCompass || noteset.CheckCompass(c) != api.ErrCompass {
			t.Errorf("Range(%v) = %v, %d, CheckCompass = %d", c, s, e, noteset.CheckCompass(c))
		}
	}
}

// P3.3
func TestMembers(t *testing.T) {
	for _, s := range some() {
		var want []int
		for n := range 128 {
			if bit(s, n) {
				want = append(want, n)
			}
		}
		l := noteset.Members(s)
		if !slices.Equal(l, want) || noteset.Count(s) != len(want) {
			t.Errorf("%v: Members = %v, Count = %d", s, l, noteset.Count(s))
		}
		low, isLow := noteset.Least(s)
		high, isHigh := noteset.Greatest(s)
		if len(want) == 0 {
			if low != 0 || isLow || high != 0 || isHigh {
				t.Errorf("%v: Least = %d, %t, Greatest = %d, %t", s, low, isLow, high, isHigh)
			}
		} else if low != want[0] || !isLow || high != want[len(want)-1] || !isHigh {
			t.Errorf("%v: Least = %d, %t, Greatest = %d, %t", s, low, isLow, high, isHigh)
		}
		for n := -130; n < 260; n++ {
			if noteset.Has(s, n) != bit(s, n) {
				t.Errorf("Has(%v, %d) = %t", s, n, noteset.Has(s, n))
			}
		}
		if noteset.Has(s, math.MinInt) || noteset.Has(s, math.MaxInt) {
			t.Errorf("%v has what is no note", s)
		}
	}
	if a, b := noteset.Members(all), noteset.Members(all); &a[0] == &b[0] {
		t.Error("two results share their memory")
	}
}

// P3.4
func TestCombinations(t *testing.T) {
	for _, a := range some() {
		for _, b := range some() {
			if s := noteset.Union(a, b); s != notes(func(n int) bool { return bit(a, n) || bit(b, n) }) {
				t.Errorf("Union(%v, %v) = %v", a, b, s)
			}
			if s := noteset.Both(a, b); s != notes(func(n int) bool { return bit(a, n) && bit(b, n) }) {
				t.Errorf("Both(%v, %v) = %v", a, b, s)
			}
			rest := notes(func(n int) bool { return bit(a, n) && !bit(b, n) })
			if s := noteset.Without(a, b); s != rest {
				t.Errorf("Without(%v, %v) = %v", a, b, s)
			}
			if noteset.Within(a, b) != (rest == api.Notes{}) || !noteset.Within(noteset.Both(a, b), b) {
				t.Errorf("Within(%v, %v) = %t", a, b, noteset.Within(a, b))
			}
		}
	}
}

// P3.5
func TestShift(t *testing.T) {
	for _, s := range some() {
		for by := -200; by <= 200; by++ {
			if u := noteset.Shift(s, by); u != notes(func(n int) bool { return bit(s, n-by) }) {
				t.Errorf("Shift(%v, %d) = %v", s, by, u)
			}
		}
		for _, by := range []int{math.MinInt, math.MinInt + 1, math.MinInt + 64, -1 << 32, 1 << 32, math.MaxInt - 63, math.MaxInt} {
			if u := noteset.Shift(s, by); u != (api.Notes{}) {
				t.Errorf("Shift(%v, %d) = %v", s, by, u)
			}
		}
	}
}

// P3.6
func TestTextAndParse(t *testing.T) {
	for _, c := range []struct {
		l    []int
		text string
	}{{nil, ""}, {[]int{60, 64, 67}, "C4 E4 G4"}, {[]int{127, 0}, "C-1 G9"}, {[]int{61}, "C#4"}, {[]int{64, 63}, "D#4 E4"}} {
		s, _ := noteset.Of(c.l)
		if text := noteset.Text(s); text != c.text {
			t.Errorf("Text(%v) = %q", s, text)
		}
		if u, e := noteset.Parse(c.text); u != s || e != api.OK {
			t.Errorf("Parse(%q) = %v, %d", c.text, u, e)
		}
	}
	mixed, _ := noteset.Of([]int{127, 60, 0, 61})
	if s, e := noteset.Parse("C#4 G9 C-1 C4"); s != mixed || e != api.OK {
		t.Errorf("Parse = %v, %d", s, e)
	}
	for s, want := range map[string]api.Errno{
		" ": api.ErrName, " C4": api.ErrName, "C4 ": api.ErrName, "C4  E4": api.ErrName, "C4\tE4": api.ErrName, "C4,E4": api.ErrName, "C4 c4": api.ErrName, "C4 H4 C4": api.ErrName,
		"C4 C4": api.ErrDuplicate, "C4 E4 C4 H4": api.ErrDuplicate, "C4 C4 ": api.ErrDuplicate,
		strings.Repeat("C4 ", 21845) + "C":         api.ErrDuplicate, // as long as a text can be
		strings.Repeat("C4 ", 21845) + "C4":        api.ErrLong,
		strings.Repeat("x", api.MaxText):           api.ErrName,
		strings.Repeat("x", api.MaxText+1):         api.ErrLong,
		strings.Repeat(" ", api.MaxText) + "C4":    api.ErrLong,
		"C4 " + strings.Repeat("é", api.MaxText/2): api.ErrLong,
	} {
		if set, e := noteset.Parse(s); set != (api.Notes{}) || e != want {
			t.Errorf("Parse(%.20q) = %v, %d, not %d", s, set, e, want)
		}
	}
}

// P3.7
func TestConsequences(t *testing.T) {
	for _, a := range some() {
		if s, e := noteset.Of(noteset.Members(a)); s != a || e != api.OK {
			t.Errorf("%v: the set of its members is %v, %d", a, s, e)
		}
		if s, e := noteset.Parse(noteset.Text(a)); s != a || e != api.OK {
			t.Errorf("%v: the set of its text is %v, %d", a, s, e)
		}
		for _, b := range some() {
			rest, both := noteset.Without(a, b), noteset.Both(a, b)
			if noteset.Union(rest, both) != a || noteset.Both(rest, both) != (api.Notes{}) {
				t.Errorf("%v without %v is %v, both have %v", a, b, rest, both)
			}
			if noteset.Count(noteset.Union(a, b))+noteset.Count(both) != noteset.Count(a)+noteset.Count(b) {
				t.Errorf("%v and %v: the numbers of members", a, b)
			}
		}
		for by := range 130 {
			kept := notes(func(n int) bool { return bit(a, n) && n+by < 128 })
			if s := noteset.Shift(noteset.Shift(a, by), -by); s != kept {
				t.Errorf("%v up and down by %d: %v", a, by, s)
			}
		}
	}
}
