package share_test

import (
	"math"
	"math/rand"
	"reflect"
	"slices"
	"strconv"
	"testing"

	"bombarde/api"
	"bombarde/noteset"
	"bombarde/organ"
	"bombarde/share"
)

// randomRegistration returns a right registration without couplers.
func randomRegistration(random *rand.Rand, o api.Organ) api.Registration {
	r := api.Registration{Off: uint64(random.Intn(1 << len(o.Divisions)))}
	for _, division := range o.Divisions {
		r.Stops = append(r.Stops, uint64(random.Intn(1<<len(division.Stops))))
	}
	return r
}

// randomKeys returns right keys.
func randomKeys(random *rand.Rand, o api.Organ) api.Keys {
	var k api.Keys
	for _, division := range o.Divisions {
		all, _ := noteset.Range(division.Keys)
		k = append(k, noteset.Both(all, api.Notes{Low: random.Uint64() & random.Uint64(), High: random.Uint64()}))
	}
	return k
}

// effective counts the draws of keys, and the different pipes.
func effective(o api.Organ, r api.Registration, k api.Keys) (draws, pipes int) {
	different := map[api.Pipe]bool{}
	for _, at := range all(o) {
		for _, t := range touches(o, at) {
			if r.Stops[at.Division]&(1<<at.Stop) != 0 && noteset.Has(k[at.Division], t.key) {
				draws++
				different[t.p] = true
			}
		}
	}
	return draws, len(different)
}

// isApart reports whether no two drawn stops are of one group, and none draws a pipe for two keys.
func isApart(o api.Organ, r api.Registration) bool {
	for _, group := range groups(o) {
		var drawn []share.Ref
		for _, at := range group {
			if r.Stops[at.Division]>>at.Stop&1 != 0 {
				drawn = append(drawn, at)
			}
		}
		if len(drawn) > 1 {
			return false
		}
		for _, at := range drawn {
			if slices.ContainsFunc(clashes(o, at, at), func(c share.Clash) bool { return c.KeyA != c.KeyB }) {
				return false
			}
		}
	}
	return true
}

// P22.5, P22.6
func TestEffective(t *testing.T) {
	random := rand.New(rand.NewSource(225))
	apart := 0
	for _, o := range organs() {
		for range 4 {
			r, k := randomRegistration(random, o), randomKeys(random, o)
			draws, pipes, e := share.Effective(o, r, k)
			n, m := effective(o, r, k)
			if draws != n || pipes != m || e != api.OK {
				t.Errorf("Effective(%v, %v, %v) = %d, %d, %d, not %d, %d", o, r, k, draws, pipes, e, n, m)
			}
			if pipes > draws || isApart(o, r) && pipes != draws {
				t.Errorf("Effective(%v, %v, %v) = %d, %d", o, r, k, draws, pipes)
			}
			if isApart(o, r) && draws > 0 {
				apart++
			}
		}
	}
	if apart == 0 {
		t.Error("no drawn stops were apart")
	}
}

// P22.5: couplers, and unisons that are off, do not count.
func TestEffectiveControls(t *testing.T) {
	o := chapter()
	o.Couplers = []api.Coupler{{Name: "Super", Shift: 12, Through: true}}
	for _, c := range []struct {
		r            api.Registration
		keys         api.Notes
		draws, pipes int
	}{
		{api.Registration{Stops: []uint64{3}, Couplers: 1, Off: 1}, notes(36, 48), 4, 3}, {api.Registration{Stops: []uint64{1}, Couplers: 1}, notes(36), 1, 1}, {api.Registration{Stops: []uint64{2}, Off: 1}, notes(36, 37, 48), 3, 3},
		{api.Registration{Stops: []uint64{3}}, notes(), 0, 0}, {api.Registration{Stops: []uint64{0}, Couplers: 1}, notes(40), 0, 0}, {api.Registration{Stops: []uint64{3}}, notes(40), 2, 2},
	} {
		if draws, pipes, e := share.Effective(o, c.r, api.Keys{c.keys}); draws != c.draws || pipes != c.pipes || e != api.OK {
			t.Errorf("Effective of %v with %v = %d, %d, %d", c.r, c.keys, draws, pipes, e)
		}
	}
}

// P22.3: two stops with exactly as many clashes as there may be, and with one more; the other functions have no limit.
func TestMaxClashes(t *testing.T) {
	wide := []api.Draw{d(0, 0), d(0, 1), d(0, 2), d(0, 3), d(0, 4), d(0, 5), d(0, 6), d(0, 7)}
	long := stopOf("A", seg(0, 127, wide...)) // each pipe from 7 on has 8 keys, the pipe 0 one
	full := stopOf("B", seg(7, 84, wide...), seg(100, 100, wide[0]))
	over := stopOf("C", seg(0, 0, wide[0]), seg(7, 84, wide...), seg(100, 100, wide[0]))
	o := api.Organ{Name: "O", Ranks: []api.Rank{row("R", 0, 128)}, Divisions: []api.Division{{Name: "D", Keys: compass(0, 127), Stops: []api.Stop{long, full, over}}}}
	for _, c := range [][2]share.Ref{{ref(0, 0), ref(0, 1)}, {ref(0, 1), ref(0, 0)}} {
		l, e := share.Clashes(o, c[0], c[1])
		expect(t, "Clashes", o, l, e, clashes(o, c[0], c[1]))
		if len(l) != share.MaxClashes || share.MaxClashes != 5000 {
			t.Errorf("there are %d clashes", len(l))
		}
	}
	for _, c := range [][2]share.Ref{{ref(0, 0), ref(0, 2)}, {ref(0, 2), ref(0, 0)}, {ref(0, 0), ref(0, 0)}} {
		if l, e := share.Clashes(o, c[0], c[1]); len(l) != 0 || e != api.ErrLimit {
			t.Errorf("Clashes = %d clashes, %d", len(l), e)
		}
		intervals, e := share.Intervals(o, c[0], c[1])
		checkIntervals(t, o, c[0], c[1], clashes(o, c[0], c[1]), intervals, e)
	}
}

// cliques returns an organ with stops of one pipe each, so many of them for each pipe.
func cliques(sizes ...int) api.Organ {
	o := api.Organ{Name: "O", Ranks: []api.Rank{row("R", 0, 128)}}
	for pipe, size := range sizes {
		for range size {
			if k := len(o.Divisions); k == 0 || len(o.Divisions[k-1].Stops) == api.MaxStops {
				o.Divisions = append(o.Divisions, api.Division{Name: "D" + strconv.Itoa(k), Keys: compass(0, 127)})
			}
			last := &o.Divisions[len(o.Divisions)-1]
			last.Stops = append(last.Stops, stopOf("S"+strconv.Itoa(len(last.Stops)), seg(pipe, pipe, d(0, 0))))
		}
	}
	return o
}

// P22.4: exactly as many pairs as there may be, and one more.
func TestMaxPairs(t *testing.T) {
	if share.MaxPairs != 2000 {
		t.Errorf("MaxPairs = %d", share.MaxPairs)
	}
	for _, c := range []struct {
		sizes []int
		pairs int
	}{
		{[]int{63, 10, 2, 2}, 2000}, {[]int{2, 2, 63, 10}, 2000}, {[]int{63}, 1953}, {[]int{63, 10, 2, 2, 2}, 2001}, {[]int{2, 63, 10, 2, 2}, 2001}, {[]int{64}, 2016}, {[]int{480}, 114960},
	} {
		o := cliques(c.sizes...)
		l, e := share.Pairs(o)
		switch {
		case c.pairs <= 2000 && (len(l) != c.pairs || e != api.OK), c.pairs > 2000 && (len(l) != 0 || e != api.ErrLimit):
			t.Errorf("%v: Pairs = %d pairs, %d", c.sizes, len(l), e)
		}
		groups, e := share.Groups(o)
		if len(groups) != len(c.sizes) || e != api.OK {
			t.Errorf("%v: Groups = %d groups, %d", c.sizes, len(groups), e)
		}
	}
}

// wrongs returns organs that are not right.
func wrongs() []api.Organ {
	var l []api.Organ
	for _, change := range []func(o *api.Organ){
		func(o *api.Organ) { o.Name = "" },
		func(o *api.Organ) { o.Ranks[1].Name = "A" },
		func(o *api.Organ) { o.Ranks[1].Wind = nil },
		func(o *api.Organ) { o.Divisions = nil },
		func(o *api.Organ) { o.Divisions[0].Keys = compass(60, 36) },
		func(o *api.Organ) { o.Divisions[2].Keys = compass(math.MinInt, math.MaxInt) },
		func(o *api.Organ) { o.Divisions[0].Stops = make([]api.Stop, 61) },
		func(o *api.Organ) { o.Divisions[0].Stops[0].Segments[0].Draws[0].Rank = -1 },
		func(o *api.Organ) { o.Divisions[0].Stops[0].Segments[0].To = math.MaxInt },
		func(o *api.Organ) { o.Couplers = []api.Coupler{{Name: "A", From: 4}} },
	} {
		o := borrowed()
		change(&o)
		l = append(l, o)
	}
	return append(l, api.Organ{})
}

// results calls all functions with two stops, and returns their errors; what they return beside an error must be nothing.
func results(t *testing.T, o api.Organ, a, b share.Ref) []api.Errno {
	t.Helper()
	common, e1 := share.Common(o, a, b)
	l, e2 := share.Clashes(o, a, b)
	intervals, e3 := share.Intervals(o, a, b)
	at, e4 := share.At(o, a, b, 0)
	if len(common)+len(l)+len(intervals) > 0 || at != (api.Notes{}) {
		t.Errorf("there are results of %v and %v", a, b)
	}
	return []api.Errno{e1, e2, e3, e4}
}

// P1, P22.1 to P22.5: the errors of the organ, before all others.
func TestWrongOrgans(t *testing.T) {
	for i, o := range wrongs() {
		want := organ.Check(o)
		stops, e1 := share.Stops(o)
		users, e2 := share.Users(o, pipe(9, 9))
		pairs, e3 := share.Pairs(o)
		groups, e4 := share.Groups(o)
		draws, pipes, e5 := share.Effective(o, api.Registration{}, nil)
		if len(stops)+len(users)+len(pairs)+len(groups)+draws+pipes > 0 {
			t.Errorf("%d: there are results of a wrong organ", i)
		}
		l := append(results(t, o, ref(0, 0), ref(9, 9)), e1, e2, e3, e4, e5)
		if want == api.OK || !slices.Equal(l, slices.Repeat([]api.Errno{want}, len(l))) {
			t.Errorf("%d: the errors are %v, not %d", i, l, want)
		}
	}
}

// P1, P22.2, P22.3: stops that there are not.
func TestUnknownStops(t *testing.T) {
	right := ref(0, 0)
	for _, at := range []share.Ref{ref(-1, 0), ref(4, 0), ref(math.MinInt, 0), ref(math.MaxInt, 0), ref(0, -1), ref(0, 3), ref(1, 0), ref(3, 1), ref(0, math.MinInt), ref(0, math.MaxInt)} {
		for _, c := range [][2]share.Ref{{at, right}, {right, at}, {at, at}} {
			if l := results(t, borrowed(), c[0], c[1]); !slices.Equal(l, slices.Repeat([]api.Errno{api.ErrUnknown}, 4)) {
				t.Errorf("%v: the errors are %v", c, l)
			}
		}
	}
}

// P1, P22.5: the errors of the registration come before those of the keys.
func TestWrongRegistrations(t *testing.T) {
	o := chapter()
	keys := []api.Keys{{notes(36)}, nil, {notes(49)}}
	for _, c := range []struct {
		r api.Registration
		e api.Errno
	}{
		{api.Registration{}, api.ErrSize}, {api.Registration{Stops: []uint64{0, 0}}, api.ErrSize}, {api.Registration{Stops: []uint64{4}}, api.ErrRange}, {api.Registration{Stops: []uint64{0}, Couplers: 1}, api.ErrRange}, {api.Registration{Stops: []uint64{3}, Off: 2}, api.ErrRange},
	} {
		for _, k := range keys {
			if draws, pipes, e := share.Effective(o, c.r, k); draws != 0 || pipes != 0 || e != c.e {
				t.Errorf("Effective of %v, %v = %d, %d, %d", c.r, k, draws, pipes, e)
			}
		}
	}
	for i, want := range []api.Errno{api.OK, api.ErrSize, api.ErrCompass} {
		if draws, pipes, e := share.Effective(o, api.Registration{Stops: []uint64{0}}, keys[i]); draws != 0 || pipes != 0 || e != want {
			t.Errorf("Effective with the keys %v = %d, %d, %d", keys[i], draws, pipes, e)
		}
	}
}

// greatest returns an organ with as many stops as there can be, which use as many pipes as they can.
func greatest() api.Organ {
	o := api.Organ{Name: "O"}
	for i := range api.MaxRanks {
		o.Ranks = append(o.Ranks, row("R"+strconv.Itoa(i), 0, api.MaxPipes))
	}
	for i := range api.MaxDivisions {
		division := api.Division{Name: "D" + strconv.Itoa(i), Keys: compass(0, api.MaxNote)}
		for k := range api.MaxStops {
			var l []api.Draw
			for m := range api.MaxDraws {
				l = append(l, d((7*i+k+m)%api.MaxRanks, 0))
			}
			division.Stops = append(division.Stops, stopOf("S"+strconv.Itoa(k), seg(0, 127, l...)))
		}
		o.Divisions = append(o.Divisions, division)
	}
	return o
}

// P22.1, P22.4, P22.5: the greatest organ.
func TestGreatest(t *testing.T) {
	o := greatest()
	if l, e := share.Pairs(o); len(l) != 0 || e != api.ErrLimit {
		t.Errorf("Pairs = %d pairs, %d", len(l), e)
	}
	groups, e := share.Groups(o)
	expect(t, "Groups", api.Organ{}, groups, e, [][]share.Ref{all(o)})
	full, _ := organ.Full(o)
	k := api.Keys(slices.Repeat([]api.Notes{{Low: math.MaxUint64, High: math.MaxUint64}}, 8))
	if draws, pipes, e := share.Effective(o, full, k); draws != 480*128*8 || pipes != 60*128 || e != api.OK {
		t.Errorf("Effective = %d, %d, %d", draws, pipes, e)
	}
	if l, e := share.Users(o, pipe(59, 127)); len(l) != 64 || e != api.OK {
		t.Errorf("Users = %d stops, %d", len(l), e)
	}
}

// P22.1 to P22.5: arguments are not modified, and results share no memory with each other.
func TestMemory(t *testing.T) {
	o, a, b := borrowed(), ref(0, 1), ref(2, 3)
	r, k := api.Registration{Stops: []uint64{7, 0, 15, 1}}, api.Keys{notes(40), notes(), notes(40), notes(36)}
	users := func() []share.Ref {
		l, _ := share.Users(o, pipe(2, 24))
		return l
	}
	for range 2 {
		share.Effective(o, r, k)
		stops, _ := share.Stops(o)
		common, _ := share.Common(o, a, b)
		l, _ := share.Clashes(o, a, b)
		intervals, _ := share.Intervals(o, a, b)
		pairs, _ := share.Pairs(o)
		groups, _ := share.Groups(o)
		for _, group := range groups {
			_ = append(group, ref(9, 9)) // what stands behind a group must not be another one
		}
		if !reflect.DeepEqual(groups[1], []share.Ref{a, b, ref(3, 0)}) || len(users()) != 3 {
			t.Errorf("the groups are %v, the users %v", groups, users())
		}
		clear(stops)
		clear(common)
		clear(l)
		clear(intervals)
		clear(pairs)
		clear(groups[0])
		clear(users())
		if len(groups[1]) != 3 || groups[1][0] != a || !organ.Equal(o, borrowed()) {
			t.Errorf("groups are %v, or the organ is changed", groups)
		}
	}
	if !slices.Equal(r.Stops, []uint64{7, 0, 15, 1}) || !slices.Equal(k, api.Keys{notes(40), notes(), notes(40), notes(36)}) {
		t.Errorf("arguments are changed: %v, %v", r, k)
	}
}
