package rank_test

import (
	"math"
	"math/rand"
	"reflect"
	"slices"
	"strings"
	"testing"

	"bombarde/api"
	"bombarde/pitch"
	"bombarde/rank"
)

// f returns a fraction.
func f(num, den int) api.Fraction { return api.Fraction{Num: num, Den: den} }

// winds returns the winds of some pipes, all different.
func winds(pipes int) []int {
	l := make([]int, pipes)
	for i := range l {
		l[i] = 1000 - 3*i
	}
	return l
}

// row returns a right rank of 8 feet.
func row(first, pipes int) api.Rank {
	return api.Rank{Name: "Principal", Tone: "principal", Feet: f(8, 1), First: first, Wind: winds(pipes)}
}

// with returns a rank after a change of a copy.
func with(r api.Rank, change func(r *api.Rank)) api.Rank {
	r.Wind = slices.Clone(r.Wind)
	change(&r)
	return r
}

// some returns right ranks of all kinds, with the extreme ones.
func some() []api.Rank {
	l := []api.Rank{
		row(36, 61), row(-256, 1), row(256, 1), row(-256, 128), row(256, 128), row(0, 128), row(-5, 12), row(120, 12),
		{Name: "a", Tone: "Z", Feet: f(1, 128), First: -100, Wind: []int{0}},
		{Name: strings.Repeat("x", 32), Tone: "t_9", Feet: f(128, 1), First: 60, Wind: []int{api.MaxWind, 0, api.MaxWind}},
		{Name: "Quint", Tone: "quint", Feet: f(8, 3), First: -10, Wind: slices.Repeat([]int{api.MaxWind}, 128)},
	}
	random := rand.New(rand.NewSource(14))
	usual := pitch.Usual()
	for range 60 {
		r := row(random.Intn(513)-256, 1+random.Intn(128))
		r.Feet = usual[random.Intn(len(usual))]
		for i := range r.Wind {
			r.Wind[i] = random.Intn(api.MaxWind + 1)
		}
		l = append(l, r)
	}
	return l
}

// flaws has changes that make a rank wrong, in the order in which Check names their errors.
func flaws() []struct {
	change func(r *api.Rank)
	e      api.Errno
} {
	return []struct {
		change func(r *api.Rank)
		e      api.Errno
	}{
		{func(r *api.Rank) { r.Name = "8foot" }, api.ErrName},
		{func(r *api.Rank) { r.Tone = "" }, api.ErrName},
		{func(r *api.Rank) { r.Feet = f(16, 2) }, api.ErrNumber},
		{func(r *api.Rank) { r.Feet = f(129, 1) }, api.ErrRange},
		{func(r *api.Rank) { r.Feet = f(1, 129) }, api.ErrLimit},
		{func(r *api.Rank) { r.First = 257 }, api.ErrRange},
		{func(r *api.Rank) { r.First = -257 }, api.ErrRange},
		{func(r *api.Rank) { r.First = math.MinInt }, api.ErrRange},
		{func(r *api.Rank) { r.First = math.MaxInt }, api.ErrRange},
		{func(r *api.Rank) { r.Wind = nil }, api.ErrEmpty},
		{func(r *api.Rank) { r.Wind = []int{} }, api.ErrEmpty},
		{func(r *api.Rank) { r.Wind = make([]int, 129) }, api.ErrLimit},
		{func(r *api.Rank) { r.Wind = slices.Repeat([]int{-1}, 129) }, api.ErrLimit},
		{func(r *api.Rank) { r.Wind[0] = -1 }, api.ErrRange},
		{func(r *api.Rank) { r.Wind[len(r.Wind)-1] = api.MaxWind + 1 }, api.ErrRange},
		{func(r *api.Rank) { r.Wind[len(r.Wind)/2] = math.MinInt }, api.ErrRange},
	}
}

// wrong is a rank that is not right, and its error.
type wrong struct {
	r api.Rank
	e api.Errno
}

// wrongs returns ranks with one flaw.
func wrongs() []wrong {
	var l []wrong
	for _, flaw := range flaws() {
		l = append(l, wrong{with(row(36, 61), flaw.change), flaw.e})
	}
	return l
}

// P14.1
func TestCheck(t *testing.T) {
	for _, r := range some() {
		if e := rank.Check(r); e != api.OK {
			t.Errorf("Check(%v) = %d", r, e)
		}
	}
	for _, c := range wrongs() {
		if e := rank.Check(c.r); e != c.e {
			t.Errorf("Check(%v) = %d, not %d", c.r, e, c.e)
		}
	}
	if e := rank.Check(api.Rank{}); e != api.ErrName {
		t.Errorf("Check of nothing = %d", e)
	}
}

// P14.1: of two flaws the one that is named first counts.
func TestCheckOrder(t *testing.T) {
	type part struct{ of, flaw int } // two flaws of one field cannot be had together
	parts := []part{{0, 0}, {1, 1}, {2, 2}, {2, 3}, {2, 4}, {3, 5}, {3, 6}, {3, 7}, {3, 8}, {4, 9}, {4, 10}, {4, 11}, {4, 12}, {4, 13}, {4, 14}, {4, 15}}
	l := flaws()
	for _, a := range parts {
		for _, b := range parts {
			if a.of >= b.of {
				continue
			}
			r := with(with(row(36, 61), l[b.flaw].change), l[a.flaw].change)
			if e := rank.Check(r); e != l[a.flaw].e {
				t.Errorf("Check with the flaws %d and %d = %d, not %d", a.flaw, b.flaw, e, l[a.flaw].e)
			}
		}
	}
}

// P14.1
func TestIsName(t *testing.T) {
	for _, s := range []string{"a", "Z", "A0", "a_", "Principal_8", "z" + strings.Repeat("9", 31), "b_c_9", "AZaz09_", "a" + strings.Repeat("_", 31)} {
		if !rank.IsName(s) {
			t.Errorf("%q is no name", s)
		}
	}
	for _, s := range []string{"", "_", "_a", "9", "9a", " a", "a ", "a-b", "a.b", "a\x00", "é", "aé", "a\xff", "\xc3a", "a\n", "z" + strings.Repeat("9", 32), strings.Repeat("a", 1000), "@a", "[a", "`a", "{a", "a@", "a[", "a`", "a{", "a/", "a:"} {
		if rank.IsName(s) {
			t.Errorf("%q is a name", s)
		}
	}
	const letters = "ABCDEFGHIJKLMNOPQRSTUVWXYZabcdefghijklmnopqrstuvwxyz"
	for c := range 256 {
		s := string([]byte{byte(c)})
		if rank.IsName(s) != strings.Contains(letters, s) {
			t.Errorf("IsName(%q) = %t", s, rank.IsName(s))
		}
		if rank.IsName("a"+s) != strings.Contains(letters+"0123456789_", s) {
			t.Errorf("IsName(%q) = %t", "a"+s, rank.IsName("a"+s))
		}
	}
}

// P14.1: ranks are compared also if they are not right.
func TestEqual(t *testing.T) {
	l := append(some(), api.Rank{}, api.Rank{Name: "a"}, api.Rank{Tone: "a"}, api.Rank{Feet: f(1, 0)}, api.Rank{Feet: f(0, 1)}, api.Rank{Feet: f(2, 2)}, api.Rank{Feet: f(1, 1)}, api.Rank{First: 1}, api.Rank{Wind: []int{0}}, api.Rank{Wind: []int{0, 0}}, api.Rank{Wind: []int{0, 1}})
	for _, c := range wrongs() {
		l = append(l, c.r)
	}
	for i, a := range l {
		for j, b := range l {
			want := a.Name == b.Name && a.Tone == b.Tone && reflect.DeepEqual(a.Feet, b.Feet) && a.First == b.First && len(a.Wind) == len(b.Wind)
			for k := 0; want && k < len(a.Wind); k++ {
				want = a.Wind[k] == b.Wind[k]
			}
			if rank.Equal(a, b) != want {
				t.Errorf("Equal of %d and %d = %t", i, j, !want)
			}
		}
		if !rank.Equal(a, with(a, func(*api.Rank) {})) {
			t.Errorf("%v is not equal to its copy", a)
		}
	}
	if !rank.Equal(api.Rank{Wind: []int{}}, api.Rank{}) {
		t.Error("no pipes differ from no pipes")
	}
	for i, change := range []func(r *api.Rank){
		func(r *api.Rank) { r.Name = "Other" }, func(r *api.Rank) { r.Tone = "other" }, func(r *api.Rank) { r.Feet = f(4, 1) }, func(r *api.Rank) { r.First++ },
		func(r *api.Rank) { r.Wind[0]++ }, func(r *api.Rank) { r.Wind[60]++ }, func(r *api.Rank) { r.Wind = r.Wind[:60] }, func(r *api.Rank) { r.Wind = append(r.Wind, 0) },
	} {
		if a, b := row(36, 61), with(row(36, 61), change); rank.Equal(a, b) || rank.Equal(b, a) {
			t.Errorf("equal after the change %d", i)
		}
	}
}

// P14.1 to P14.3, P1: all functions but those without errors return that of a wrong rank first.
func TestWrongRanks(t *testing.T) {
	for _, c := range wrongs() {
		for _, n := range []int{0, 36, -1, 128, math.MinInt, math.MaxInt} {
			if number, found, e := rank.Number(c.r, n); number != 0 || found || e != c.e {
				t.Errorf("Number(%v, %d) = %d, %t, %d", c.r, n, number, found, e)
			}
			if note, e := rank.Note(c.r, n); note != 0 || e != c.e {
				t.Errorf("Note(%v, %d) = %d, %d", c.r, n, note, e)
			}
			if wind, e := rank.Wind(c.r, n); wind != 0 || e != c.e {
				t.Errorf("Wind(%v, %d) = %d, %d", c.r, n, wind, e)
			}
			if note, is, e := rank.Sounding(c.r, n); note != 0 || is || e != c.e {
				t.Errorf("Sounding(%v, %d) = %d, %t, %d", c.r, n, note, is, e)
			}
		}
		if last, e := rank.Last(c.r); last != 0 || e != c.e {
			t.Errorf("Last(%v) = %d, %d", c.r, last, e)
		}
		if total, e := rank.Total(c.r); total != 0 || e != c.e {
			t.Errorf("Total(%v) = %d, %d", c.r, total, e)
		}
	}
}

// P14.2
func TestNumberAndLast(t *testing.T) {
	if number, found, e := rank.Number(row(36, 61), 48); number != 12 || !found || e != api.OK {
		t.Errorf("Number = %d, %t, %d", number, found, e)
	}
	if last, e := rank.Last(row(36, 61)); last != 96 || e != api.OK {
		t.Errorf("Last = %d, %d", last, e)
	}
	for _, r := range some() {
		number := map[int]int{}
		for n := range r.Wind {
			number[r.First+n] = n
		}
		for _, note := range append([]int{math.MinInt, math.MinInt + 300, math.MaxInt - 300, math.MaxInt}, span(-400, 400)...) {
			want, is := number[note]
			if n, found, e := rank.Number(r, note); n != want || found != is || e != api.OK {
				t.Errorf("Number(%v, %d) = %d, %t, %d", r, note, n, found, e)
			}
		}
		if last, e := rank.Last(r); number[last] != len(r.Wind)-1 || last < r.First || e != api.OK {
			t.Errorf("Last(%v) = %d, %d", r, last, e)
		}
	}
}

// span returns the ints from one to another.
func span(from, to int) []int {
	var l []int
	for n := from; n <= to; n++ {
		l = append(l, n)
	}
	return l
}

// none returns numbers that no pipe of a rank has.
func none(r api.Rank) []int {
	return []int{-1, -2, len(r.Wind), len(r.Wind) + 1, 128, 1000, -r.First - 1000, math.MinInt, math.MaxInt}
}

// P14.2, P14.3
func TestPipes(t *testing.T) {
	for _, r := range some() {
		total := 0
		shift, _ := pitch.Shift(r.Feet, f(8, 1))
		for n, w := range r.Wind {
			total += w
			if note, e := rank.Note(r, n); note != r.First+n || e != api.OK {
				t.Errorf("Note(%v, %d) = %d, %d", r, n, note, e)
			}
			if wind, e := rank.Wind(r, n); wind != w || e != api.OK {
				t.Errorf("Wind(%v, %d) = %d, %d", r, n, wind, e)
			}
			want, wantIs := r.First+n+shift, true
			if want < 0 || want > 127 {
				want, wantIs = 0, false
			}
			if note, is, e := rank.Sounding(r, n); note != want || is != wantIs || e != api.OK {
				t.Errorf("Sounding(%v, %d) = %d, %t, %d", r, n, note, is, e)
			}
		}
		if sum, e := rank.Total(r); sum != total || e != api.OK {
			t.Errorf("Total(%v) = %d, %d", r, sum, e)
		}
		for _, n := range none(r) {
			if note, e := rank.Note(r, n); note != 0 || e != api.ErrUnknown {
				t.Errorf("Note(%v, %d) = %d, %d", r, n, note, e)
			}
			if wind, e := rank.Wind(r, n); wind != 0 || e != api.ErrUnknown {
				t.Errorf("Wind(%v, %d) = %d, %d", r, n, wind, e)
			}
			if note, is, e := rank.Sounding(r, n); note != 0 || is || e != api.ErrUnknown {
				t.Errorf("Sounding(%v, %d) = %d, %t, %d", r, n, note, is, e)
			}
		}
	}
}

// P14.3: the ends of the notes, also with pipes for notes that are none.
func TestSounding(t *testing.T) {
	for _, c := range []struct {
		feet          api.Fraction
		first, number int
		note          int
		is            bool
	}{
		{f(8, 1), 36, 12, 48, true}, {f(4, 1), 36, 12, 60, true}, {f(8, 1), 0, 0, 0, true}, {f(8, 1), -1, 0, 0, false}, {f(8, 1), -1, 1, 0, true}, {f(8, 1), 0, 127, 127, true}, {f(8, 1), 1, 127, 0, false}, {f(8, 1), 127, 0, 127, true}, {f(8, 1), 128, 0, 0, false},
		{f(4, 1), -12, 0, 0, true}, {f(4, 1), -13, 0, 0, false}, {f(4, 1), 115, 0, 127, true}, {f(4, 1), 116, 0, 0, false}, {f(16, 1), 139, 0, 127, true}, {f(16, 1), 140, 0, 0, false}, {f(16, 1), 12, 0, 0, true}, {f(16, 1), 11, 0, 0, false}, {f(8, 3), -19, 1, 1, true},
		{f(1, 128), -120, 0, 0, true}, {f(1, 128), -120, 127, 127, true}, {f(128, 1), 48, 0, 0, true}, {f(128, 1), 48, 127, 127, true},
	} {
		r := with(row(c.first, 128), func(r *api.Rank) { r.Feet = c.feet })
		if note, is, e := rank.Sounding(r, c.number); note != c.note || is != c.is || e != api.OK {
			t.Errorf("Sounding of the pipe %d from %d on at %v = %d, %t, %d", c.number, c.first, c.feet, note, is, e)
		}
	}
}
