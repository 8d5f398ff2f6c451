package coupler_test

import (
	"math"
	"math/rand"
	"slices"
	"testing"

	"bombarde/api"
	"bombarde/coupler"
	"bombarde/noteset"
)

// contacts returns all contacts of an action, in order.
func contacts(a coupler.Action) []api.Contact {
	var l []api.Contact
	for i, x := range a.Divisions {
		for key := x.Low; key <= x.High; key++ {
			l = append(l, at(i, key))
		}
	}
	return l
}

// takes says, by the definition, where a coupler takes a contact.
func takes(a coupler.Action, i int, from api.Contact) (api.Contact, bool) {
	x := a.Couplers[i]
	for _, to := range contacts(a) {
		if from.Division == x.From && to.Division == x.To && to.Key == from.Key+x.Shift {
			return to, true
		}
	}
	return api.Contact{}, false
}

// reachOf returns, by the definition, the reach of played keys: sets of contacts grow until nothing comes about any more.
func reachOf(a coupler.Action, played map[api.Contact]bool) map[api.Contact]bool {
	reach := map[api.Contact]bool{}
	for grown := -1; grown < len(reach); {
		grown = len(reach)
		for i := range a.Couplers {
			if a.Drawn>>i&1 == 0 {
				continue
			}
			for _, from := range contacts(a) {
				to, found := takes(a, i, from)
				if found && (played[from] || reach[from] && a.Couplers[i].Through) {
					reach[to] = true
				}
			}
		}
	}
	return reach
}

// inOrder returns the contacts of a set, in order.
func inOrder(a coupler.Action, set map[api.Contact]bool) []api.Contact {
	var l []api.Contact
	for _, x := range contacts(a) {
		if set[x] {
			l = append(l, x)
		}
	}
	return l
}

// keysOf returns the keys of contacts.
func keysOf(a coupler.Action, set map[api.Contact]bool) api.Keys {
	keys := make(api.Keys, len(a.Divisions))
	for x := range set {
		one, _ := noteset.Of([]int{x.Key})
		keys[x.Division] = noteset.Union(keys[x.Division], one)
	}
	return keys
}

// small returns those of some actions that the slow definitions can be calculated for.
func small() []coupler.Action { return slices.Delete(some(), 3, 4) }

// P16.2
func TestStep(t *testing.T) {
	for n, a := range small() {
		for i := range a.Couplers {
			for _, from := range contacts(a) {
				to, found := takes(a, i, from)
				if got, is, e := coupler.Step(a, i, from); got != to || is != found || e != api.OK {
					t.Errorf("%d: Step(%d, %v) = %v, %t, %d, not %v", n, i, from, got, is, e, to)
				}
			}
		}
	}
	a := example()
	for _, x := range []struct {
		coupler int
		from    api.Contact
		to      api.Contact
		found   bool
	}{
		// The last two couplers are not drawn.
		{0, at(1, 48), at(1, 60), true}, {0, at(1, 49), at(0, 0), false}, {0, at(0, 48), at(0, 0), false}, {2, at(2, 36), at(0, 36), true}, {2, at(2, 35), at(0, 0), false}, {3, at(1, 48), at(1, 36), true},
	} {
		if to, found, e := coupler.Step(a, x.coupler, x.from); to != x.to || found != x.found || e != api.OK {
			t.Errorf("Step(%d, %v) = %v, %t, %d", x.coupler, x.from, to, found, e)
		}
	}
}

// none are contacts that the example has not, with their errors.
func none() []struct {
	contact api.Contact
	e       api.Errno
} {
	return []struct {
		contact api.Contact
		e       api.Errno
	}{
		{at(3, 40), api.ErrUnknown}, {at(-1, 40), api.ErrUnknown}, {at(math.MinInt, 40), api.ErrUnknown}, {at(math.MaxInt, 40), api.ErrUnknown}, {at(3, 500), api.ErrUnknown},
		{at(0, 35), api.ErrCompass}, {at(0, 61), api.ErrCompass}, {at(2, 23), api.ErrCompass}, {at(2, 56), api.ErrCompass}, {at(1, math.MinInt), api.ErrCompass}, {at(1, math.MaxInt), api.ErrCompass}, {at(1, -1), api.ErrCompass},
	}
}

// P16.2, P16.3, P1: the errors of Step and Reach.
func TestContactErrors(t *testing.T) {
	a := example()
	for _, x := range none() {
		for _, i := range []int{-1, 4, math.MinInt, math.MaxInt} {
			if to, found, e := coupler.Step(a, i, x.contact); to != at(0, 0) || found || e != api.ErrUnknown {
				t.Errorf("Step(%d, %v) = %v, %t, %d", i, x.contact, to, found, e)
			}
		}
		if to, found, e := coupler.Step(a, 0, x.contact); to != at(0, 0) || found || e != x.e {
			t.Errorf("Step(0, %v) = %v, %t, %d", x.contact, to, found, e)
		}
		if l, e := coupler.Reach(a, x.contact); len(l) > 0 || e != x.e {
			t.Errorf("Reach(%v) = %v, %d", x.contact, l, e)
		}
	}
	for i, from := range []api.Contact{at(0, 40), at(0, 35)} {
		if to, found, e := coupler.Step(a, 4, from); to != at(0, 0) || found || e != api.ErrUnknown {
			t.Errorf("%d: Step of no coupler = %v, %t, %d", i, to, found, e)
		}
	}
	if l, e := coupler.Reach(coupler.Action{}, at(0, 0)); len(l) > 0 || e != api.ErrUnknown {
		t.Errorf("Reach without divisions = %v, %d", l, e)
	}
}

// P16.3: the examples of the chapter, and keys that come back.
func TestReachExamples(t *testing.T) {
	two := []api.Compass{compass(36, 60), compass(36, 60)}
	first := coupler.Action{Divisions: two, Couplers: []api.Coupler{c("a", 0, 1, 0, false), c("b", 1, 1, 12, true)}, Drawn: 3}
	second := coupler.Action{Divisions: two, Couplers: []api.Coupler{c("a", 0, 1, 0, false), c("b", 1, 1, 12, false)}, Drawn: 3}
	third := coupler.Action{Divisions: two, Couplers: []api.Coupler{c("a", 0, 1, 0, false), c("b", 1, 0, 0, true)}, Drawn: 3}
	undrawn := coupler.Action{Divisions: two, Couplers: third.Couplers, Drawn: 2}
	// A key that comes back is second-hand then: the coupler without Through does not take it.
	halves := coupler.Action{Divisions: two, Couplers: []api.Coupler{c("up", 0, 1, 0, false), c("down", 1, 0, 0, true), c("side", 0, 0, 1, true)}, Drawn: 7}
	for i, x := range []struct {
		a    coupler.Action
		key  api.Contact
		want []api.Contact
	}{
		{first, at(0, 40), []api.Contact{at(1, 40), at(1, 52)}}, {first, at(1, 50), nil}, {first, at(1, 40), []api.Contact{at(1, 52)}}, {second, at(0, 40), []api.Contact{at(1, 40)}}, {second, at(1, 40), []api.Contact{at(1, 52)}}, {third, at(0, 40), []api.Contact{at(0, 40), at(1, 40)}}, {third, at(1, 40), []api.Contact{at(0, 40)}}, {undrawn, at(0, 40), nil},
		{halves, at(0, 58), []api.Contact{at(0, 58), at(0, 59), at(0, 60), at(1, 58)}}, {halves, at(0, 60), []api.Contact{at(0, 60), at(1, 60)}},
	} {
		if l, e := coupler.Reach(x.a, x.key); !slices.Equal(l, x.want) || e != api.OK {
			t.Errorf("%d: Reach(%v) = %v, %d", i, x.key, l, e)
		}
	}
}

// P16.3
func TestReach(t *testing.T) {
	for n, a := range small() {
		for i, key := range contacts(a) {
			if i%7 != n%7 {
				continue
			}
			want := inOrder(a, reachOf(a, map[api.Contact]bool{key: true}))
			if l, e := coupler.Reach(a, key); !slices.Equal(l, want) || e != api.OK {
				t.Errorf("%d: Reach(%v) = %v, %d, not %v", n, key, l, e, want)
			}
		}
	}
}

// P16.3
func TestAllAndSounding(t *testing.T) {
	random := rand.New(rand.NewSource(163))
	for n, a := range small() {
		played := map[api.Contact]bool{}
		for _, x := range contacts(a) {
			if random.Intn(12) == 0 {
				played[x] = true
			}
		}
		keys, reach := keysOf(a, played), reachOf(a, played)
		if all, e := coupler.All(a, keys); !slices.Equal(all, keysOf(a, reach)) || e != api.OK {
			t.Errorf("%d: All(%v) = %v, %d", n, keys, all, e)
		}
		for range 4 {
			off := random.Uint64() & (1<<len(a.Divisions) - 1)
			sounds := map[api.Contact]bool{}
			for _, x := range contacts(a) {
				if reach[x] || played[x] && off>>x.Division&1 == 0 {
					sounds[x] = true
				}
			}
			if l, e := coupler.Sounding(a, keys, off); !slices.Equal(l, keysOf(a, sounds)) || e != api.OK {
				t.Errorf("%d: Sounding(%v, %b) = %v, %d", n, keys, off, l, e)
			}
		}
	}
}

// P16.3, P1: the errors of keys, before that of the unisons.
func TestKeysErrors(t *testing.T) {
	a, key := example(), func(n int) api.Notes { one, _ := noteset.Of([]int{n}); return one }
	for i, x := range []struct {
		keys api.Keys
		off  uint64
		all  api.Errno
		e    api.Errno
	}{
		{make(api.Keys, 3), 7, api.OK, api.OK}, {make(api.Keys, 3), 8, api.OK, api.ErrRange}, {make(api.Keys, 3), 1 << 63, api.OK, api.ErrRange}, {nil, 8, api.ErrSize, api.ErrSize}, {make(api.Keys, 2), 0, api.ErrSize, api.ErrSize}, {api.Keys{{}, {}, {}, key(0)}, 0, api.ErrSize, api.ErrSize}, {api.Keys{key(0), key(0)}, 8, api.ErrSize, api.ErrSize},
		{api.Keys{key(36), key(60), key(24)}, 7, api.OK, api.OK}, {api.Keys{key(35), {}, {}}, 8, api.ErrCompass, api.ErrCompass}, {api.Keys{{}, key(61), {}}, 0, api.ErrCompass, api.ErrCompass}, {api.Keys{{}, {}, key(23)}, 0, api.ErrCompass, api.ErrCompass}, {api.Keys{{}, {}, noteset.Union(key(24), key(127))}, 8, api.ErrCompass, api.ErrCompass},
	} {
		if l, e := coupler.All(a, x.keys); e != x.all || e != api.OK && len(l) > 0 || e == api.OK && len(l) != 3 {
			t.Errorf("%d: All = %v, %d", i, l, e)
		}
		if l, e := coupler.Sounding(a, x.keys, x.off); e != x.e || e != api.OK && len(l) > 0 || e == api.OK && len(l) != 3 {
			t.Errorf("%d: Sounding = %v, %d", i, l, e)
		}
	}
	if l, e := coupler.Sounding(coupler.Action{}, nil, 0); len(l) > 0 || e != api.OK {
		t.Errorf("Sounding without divisions = %v, %d", l, e)
	}
	if l, e := coupler.Sounding(coupler.Action{}, nil, 1); len(l) > 0 || e != api.ErrRange {
		t.Errorf("Sounding without divisions = %v, %d", l, e)
	}
}

// P16.2 to P16.4, P1: the error of a wrong action comes before all others.
func TestWrongActions(t *testing.T) {
	l := wrongs()
	a := example()
	a.Drawn = 16
	for i, x := range append(l, wrong{a, api.ErrRange}) {
		for _, contact := range []api.Contact{at(0, 40), at(9, 40), at(0, 400)} {
			for _, n := range []int{0, -1, 100} {
				if to, found, e := coupler.Step(x.a, n, contact); to != at(0, 0) || found || e != x.e {
					t.Errorf("%d: Step = %v, %t, %d, not %d", i, to, found, e, x.e)
				}
			}
			if l, e := coupler.Reach(x.a, contact); len(l) > 0 || e != x.e {
				t.Errorf("%d: Reach = %v, %d, not %d", i, l, e, x.e)
			}
		}
		for _, keys := range []api.Keys{nil, make(api.Keys, 3), {{Low: 1}, {}, {}}} {
			if l, e := coupler.All(x.a, keys); len(l) > 0 || e != x.e {
				t.Errorf("%d: All = %v, %d, not %d", i, l, e, x.e)
			}
			if l, e := coupler.Sounding(x.a, keys, 1<<20); len(l) > 0 || e != x.e {
				t.Errorf("%d: Sounding = %v, %d, not %d", i, l, e, x.e)
			}
		}
		if l, e := coupler.Matrix(x.a); len(l) > 0 || e != x.e {
			t.Errorf("%d: Matrix = %v, %d, not %d", i, l, e, x.e)
		}
		if l, e := coupler.Back(x.a); len(l) > 0 || e != x.e {
			t.Errorf("%d: Back = %v, %d, not %d", i, l, e, x.e)
		}
		if l, e := coupler.Idle(x.a); len(l) > 0 || e != x.e {
			t.Errorf("%d: Idle = %v, %d, not %d", i, l, e, x.e)
		}
	}
}

// P16.4: by the reaches of single keys, which are held to the definition above.
func TestMatrixAndBack(t *testing.T) {
	for n, a := range some() {
		want := make([][]bool, len(a.Divisions))
		for i := range want {
			want[i] = make([]bool, len(a.Divisions))
		}
		var back []api.Contact
		for _, key := range contacts(a) {
			reach, _ := coupler.Reach(a, key)
			for _, to := range reach {
				want[key.Division][to.Division] = true
			}
			if slices.Contains(reach, key) {
				back = append(back, key)
			}
		}
		if l, e := coupler.Matrix(a); !slices.EqualFunc(l, want, slices.Equal[[]bool]) || e != api.OK {
			t.Errorf("%d: Matrix = %v, %d, not %v", n, l, e, want)
		}
		if l, e := coupler.Back(a); !slices.Equal(l, back) || e != api.OK {
			t.Errorf("%d: Back = %v, %d, not %v", n, l, e, back)
		}
	}
	a := coupler.Action{Divisions: []api.Compass{compass(36, 60), compass(48, 72)}, Couplers: []api.Coupler{c("a", 0, 1, 0, false), c("b", 1, 0, 0, true)}, Drawn: 3}
	if l, e := coupler.Back(a); len(l) != 13 || l[0] != at(0, 48) || l[12] != at(0, 60) || e != api.OK {
		t.Errorf("Back = %v, %d", l, e)
	}
}

// P16.4
func TestIdle(t *testing.T) {
	for n, a := range some() {
		var idle []int
		for i, x := range a.Couplers {
			works := slices.ContainsFunc(contacts(a), func(from api.Contact) bool {
				key, to := from.Key+x.Shift, a.Divisions[x.To]
				return from.Division == x.From && to.Low <= key && key <= to.High
			})
			if a.Drawn>>i&1 == 1 && !works {
				idle = append(idle, i)
			}
		}
		if l, e := coupler.Idle(a); !slices.Equal(l, idle) || e != api.OK {
			t.Errorf("%d: Idle = %v, %d, not %v", n, l, e, idle)
		}
	}
	a := coupler.Action{Divisions: []api.Compass{compass(36, 60), compass(70, 80)}, Drawn: 0b110111}
	for i, shift := range []int{9, 10, 44, 45, 45, 0} {
		a.Couplers = append(a.Couplers, c(string(rune('a'+i)), 0, 1, shift, true))
	}
	if l, e := coupler.Idle(a); !slices.Equal(l, []int{0, 4, 5}) || e != api.OK {
		t.Errorf("Idle = %v, %d", l, e)
	}
}

// within reports whether one's keys are all in the other.
func within(a, b api.Keys) bool {
	return slices.EqualFunc(a, b, func(x, y api.Notes) bool { return noteset.Within(x, y) })
}

// P16.5
func TestConsequences(t *testing.T) {
	random := rand.New(rand.NewSource(165))
	for n, a := range some() {
		keys, union := make(api.Keys, len(a.Divisions)), make(api.Keys, len(a.Divisions))
		for _, x := range contacts(a) {
			if random.Intn(20) > 0 {
				continue
			}
			off := random.Uint64() & (1<<len(a.Divisions) - 1)
			before, _ := coupler.Sounding(a, keys, off)
			one := keysOf(a, map[api.Contact]bool{x: true})
			keys[x.Division] = noteset.Union(keys[x.Division], one[x.Division])
			sounding, _ := coupler.Sounding(a, keys, off)
			if !within(before, sounding) || off>>x.Division&1 == 0 && !within(one, sounding) {
				t.Errorf("%d: with %v sounds %v, before %v", n, x, sounding, before)
			}
			reach, _ := coupler.Reach(a, x)
			for _, to := range reach {
				part := keysOf(a, map[api.Contact]bool{to: true})
				union[to.Division] = noteset.Union(union[to.Division], part[to.Division])
			}
		}
		all, _ := coupler.All(a, keys)
		if !slices.Equal(all, union) {
			t.Errorf("%d: the reach of several keys is %v, not %v", n, all, union)
		}
		more := a
		for i := range a.Couplers {
			more.Drawn |= 1 << i
			if further, _ := coupler.All(more, keys); !within(all, further) {
				t.Errorf("%d: with the coupler %d the reach is %v, before %v", n, i, further, all)
			}
		}
		more.Drawn = 0
		if nothing, _ := coupler.All(more, keys); !slices.Equal(nothing, make(api.Keys, len(a.Divisions))) {
			t.Errorf("%d: without couplers the reach is %v", n, nothing)
		}
		direct := copied(a)
		for i := range direct.Couplers {
			direct.Couplers[i].Through = false
		}
		for _, x := range contacts(direct)[:min(40, len(contacts(direct)))] {
			drawn := 0
			for i := range direct.Couplers {
				drawn += int(direct.Drawn >> i & 1)
			}
			if l, _ := coupler.Reach(direct, x); len(l) > drawn {
				t.Errorf("%d: %d couplers reach %v", n, drawn, l)
			}
		}
	}
}

// P16.2 to P16.4, P1: arguments stay as they are, and results share no memory with them or with each other.
func TestMemory(t *testing.T) {
	a, keys := example(), make(api.Keys, 3)
	keys[0], _ = noteset.Of([]int{36, 40, 60})
	before := slices.Clone(keys)
	results := func() (api.Keys, api.Keys, [][]bool) {
		all, _ := coupler.All(a, keys)
		sounding, _ := coupler.Sounding(a, keys, 2)
		matrix, _ := coupler.Matrix(a)
		return all, sounding, matrix
	}
	all, sounding, matrix := results()
	for i := range 3 {
		all[i], sounding[i] = api.Notes{Low: 1}, api.Notes{High: 1}
		for k := range 3 {
			matrix[i][k] = i == 1 && k == 1
		}
		_ = append(matrix[i], true)
	}
	if matrix[0][0] || !matrix[1][1] || matrix[2][0] || all[0] == sounding[0] {
		t.Errorf("results share memory: %v", matrix)
	}
	again, more, other := results()
	if slices.Equal(again, all) || slices.Equal(more, sounding) || slices.EqualFunc(other, matrix, slices.Equal[[]bool]) {
		t.Errorf("the results became %v, %v and %v", again, more, other)
	}
	if !slices.Equal(keys, before) || !slices.Equal(a.Divisions, example().Divisions) || !slices.Equal(a.Couplers, example().Couplers) {
		t.Errorf("arguments became %v and %v", keys, a)
	}
}
