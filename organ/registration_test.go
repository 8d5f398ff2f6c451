package organ_test

import (
	"math"
	"math/rand"
	"slices"
	"testing"

	"bombarde/api"
	"bombarde/noteset"
	"bombarde/organ"
)

// reg returns a registration.
func reg(couplers, off uint64, stops ...uint64) api.Registration {
	return api.Registration{Stops: stops, Couplers: couplers, Off: off}
}

// same reports whether two registrations are equal.
func same(a, b api.Registration) bool {
	return slices.Equal(a.Stops, b.Stops) && a.Couplers == b.Couplers && a.Off == b.Off
}

// isZero reports whether no field of a registration is set.
func isZero(r api.Registration) bool { return same(r, api.Registration{}) }

// wrongRegistrations returns registrations that are not right for the example, with their errors.
func wrongRegistrations() []struct {
	r api.Registration
	e api.Errno
} {
	return []struct {
		r api.Registration
		e api.Errno
	}{
		{reg(0, 0), api.ErrSize}, {reg(0, 0, 0, 0), api.ErrSize}, {reg(0, 0, 0, 0, 0, 0), api.ErrSize}, {reg(99, 99, 99, 99), api.ErrSize}, {reg(0, 0, 8, 0, 0), api.ErrRange}, {reg(0, 0, 0, 2, 0), api.ErrRange}, {reg(0, 0, 0, 0, 1), api.ErrRange}, {reg(0, 0, 0, 0, 1<<63), api.ErrRange},
		{reg(4, 0, 0, 0, 0), api.ErrRange}, {reg(1<<63, 0, 0, 0, 0), api.ErrRange}, {reg(0, 8, 0, 0, 0), api.ErrRange}, {reg(0, 1<<63, 0, 0, 0), api.ErrRange}, {reg(math.MaxUint64, math.MaxUint64, math.MaxUint64, math.MaxUint64, math.MaxUint64), api.ErrRange},
	}
}

// P18.2
func TestCheckRegistration(t *testing.T) {
	for i, x := range wrongRegistrations() {
		if e := organ.CheckRegistration(example(), x.r); e != x.e {
			t.Errorf("%d: CheckRegistration(%v) = %d, not %d", i, x.r, e, x.e)
		}
	}
	for _, r := range []api.Registration{reg(0, 0, 0, 0, 0), reg(3, 7, 7, 1, 0), reg(1, 2, 4, 0, 0)} {
		if e := organ.CheckRegistration(example(), r); e != api.OK {
			t.Errorf("CheckRegistration(%v) = %d", r, e)
		}
	}
	for stops, want := range map[uint64]api.Errno{3: api.OK, 4: api.ErrRange} {
		if e := organ.CheckRegistration(chapter(), reg(0, 0, stops)); e != want {
			t.Errorf("CheckRegistration of the Stops %d = %d", stops, e)
		}
	}
	all := reg(1<<40-1, 255, slices.Repeat([]uint64{1<<60 - 1}, 8)...)
	if e := organ.CheckRegistration(greatest(), all); e != api.OK {
		t.Errorf("CheckRegistration of everything = %d", e)
	}
	all.Stops[7] = 1 << 60
	if e := organ.CheckRegistration(greatest(), all); e != api.ErrRange {
		t.Errorf("CheckRegistration with the stop 60 = %d", e)
	}
}

// P18.5, P18.7
func TestNoneAndFull(t *testing.T) {
	for i, x := range []struct{ none, full api.Registration }{
		{reg(0, 0, 0), reg(0, 0, 3)}, {reg(0, 0, 0, 0, 0), reg(3, 0, 7, 1, 0)}, {reg(0, 0, 0), reg(0, 0, 0)}, {reg(0, 0, make([]uint64, 8)...), reg(1<<40-1, 0, slices.Repeat([]uint64{1<<60 - 1}, 8)...)},
	} {
		o := append(organs(), greatest())[i]
		none, e := organ.None(o)
		if !same(none, x.none) || e != api.OK || organ.CheckRegistration(o, none) != api.OK {
			t.Errorf("%d: None = %v, %d", i, none, e)
		}
		full, e := organ.Full(o)
		if !same(full, x.full) || e != api.OK || organ.CheckRegistration(o, full) != api.OK {
			t.Errorf("%d: Full = %v, %d", i, full, e)
		}
	}
}

// P18.5, P1
func TestWith(t *testing.T) {
	for _, x := range []struct {
		r              api.Registration
		division, stop int
		want           api.Registration
		e              api.Errno
	}{
		{reg(1, 2, 0, 0, 0), 0, 0, reg(1, 2, 1, 0, 0), api.OK}, {reg(1, 2, 1, 0, 0), 0, 2, reg(1, 2, 5, 0, 0), api.OK}, {reg(1, 2, 5, 0, 0), 0, 2, reg(1, 2, 5, 0, 0), api.OK}, {reg(1, 2, 5, 0, 0), 1, 0, reg(1, 2, 5, 1, 0), api.OK},
		{reg(0, 0, 0, 0, 0), 0, 3, reg(0, 0), api.ErrUnknown}, {reg(0, 0, 0, 0, 0), 0, -1, reg(0, 0), api.ErrUnknown}, {reg(0, 0, 0, 0, 0), 2, 0, reg(0, 0), api.ErrUnknown}, {reg(0, 0, 0, 0, 0), 3, 0, reg(0, 0), api.ErrUnknown}, {reg(0, 0, 0, 0, 0), -1, 0, reg(0, 0), api.ErrUnknown},
		{reg(0, 0, 0, 0, 0), math.MaxInt, 0, reg(0, 0), api.ErrUnknown}, {reg(0, 0, 0, 0, 0), math.MinInt, 0, reg(0, 0), api.ErrUnknown}, {reg(0, 0, 0, 0, 0), 0, math.MaxInt, reg(0, 0), api.ErrUnknown}, {reg(0, 0, 0, 0, 0), 0, math.MinInt, reg(0, 0), api.ErrUnknown},
	} {
		if r, e := organ.With(example(), x.r, x.division, x.stop); !same(r, x.want) || e != x.e {
			t.Errorf("With(%v, %d, %d) = %v, %d", x.r, x.division, x.stop, r, e)
		}
	}
	for i, x := range wrongRegistrations() {
		for _, division := range []int{0, 99} {
			if r, e := organ.With(example(), x.r, division, 0); !isZero(r) || e != x.e {
				t.Errorf("%d: With = %v, %d, not %d", i, r, e, x.e)
			}
		}
	}
	o, _ := organ.None(greatest())
	if r, e := organ.With(greatest(), o, 7, 59); r.Stops[7] != 1<<59 || e != api.OK {
		t.Errorf("With the last stop = %v, %d", r, e)
	}
}

// P18.5, P1
func TestUnion(t *testing.T) {
	a, b := reg(1, 2, 5, 0, 0), reg(3, 6, 4, 1, 0)
	if r, e := organ.Union(example(), a, b); !same(r, reg(3, 6, 5, 1, 0)) || e != api.OK {
		t.Errorf("Union = %v, %d", r, e)
	}
	for i, x := range wrongRegistrations() {
		if r, e := organ.Union(example(), x.r, b); !isZero(r) || e != x.e {
			t.Errorf("%d: Union = %v, %d, not %d", i, r, e, x.e)
		}
		if r, e := organ.Union(example(), a, x.r); !isZero(r) || e != x.e {
			t.Errorf("%d: Union = %v, %d, not %d", i, r, e, x.e)
		}
		for k, y := range wrongRegistrations() {
			if r, e := organ.Union(example(), x.r, y.r); !isZero(r) || e != x.e {
				t.Errorf("%d, %d: Union = %v, %d, not %d", i, k, r, e, x.e)
			}
		}
	}
}

// notes returns a set of notes.
func notes(l ...int) api.Notes {
	set, _ := noteset.Of(l)
	return set
}

// wrongKeys returns keys that are not right for the example, with their errors.
func wrongKeys() []struct {
	k api.Keys
	e api.Errno
} {
	return []struct {
		k api.Keys
		e api.Errno
	}{
		{nil, api.ErrSize}, {make(api.Keys, 2), api.ErrSize}, {make(api.Keys, 4), api.ErrSize}, {api.Keys{notes(0)}, api.ErrSize}, {api.Keys{notes(35), {}, {}}, api.ErrCompass}, {api.Keys{notes(40, 97), {}, {}}, api.ErrCompass}, {api.Keys{{}, notes(23), {}}, api.ErrCompass}, {api.Keys{{}, notes(56), {}}, api.ErrCompass}, {api.Keys{{}, {}, notes(59)}, api.ErrCompass}, {api.Keys{{}, {}, notes(0, 127)}, api.ErrCompass},
	}
}

// P18.2, P18.6, P1
func TestCheckKeys(t *testing.T) {
	for i, x := range wrongKeys() {
		if e := organ.CheckKeys(example(), x.k); e != x.e {
			t.Errorf("%d: CheckKeys(%v) = %d, not %d", i, x.k, e, x.e)
		}
		for _, c := range []api.Contact{{Division: 0, Key: 40}, {Division: 3, Key: 40}, {Division: 0, Key: 0}} {
			if k, e := organ.Play(example(), x.k, c); len(k) > 0 || e != x.e {
				t.Errorf("%d: Play = %v, %d, not %d", i, k, e, x.e)
			}
		}
		if l, e := organ.Contacts(example(), x.k); len(l) > 0 || e != x.e {
			t.Errorf("%d: Contacts = %v, %d, not %d", i, l, e, x.e)
		}
	}
	for _, k := range []api.Keys{make(api.Keys, 3), {notes(36, 96), notes(24, 55), notes(60, 127)}} {
		if e := organ.CheckKeys(example(), k); e != api.OK {
			t.Errorf("CheckKeys(%v) = %d", k, e)
		}
	}
}

// P18.6
func TestPlayAndContacts(t *testing.T) {
	k, e := organ.Play(chapter(), make(api.Keys, 1), api.Contact{Key: 40})
	if !slices.Equal(k, api.Keys{notes(40)}) || e != api.OK {
		t.Errorf("Play of 40 = %v, %d", k, e)
	}
	k, e = organ.Play(chapter(), k, api.Contact{Key: 38})
	if !slices.Equal(k, api.Keys{notes(38, 40)}) || e != api.OK {
		t.Errorf("Play of 38 = %v, %d", k, e)
	}
	if l, e := organ.Contacts(chapter(), k); !slices.Equal(l, []api.Contact{{Key: 38}, {Key: 40}}) || e != api.OK {
		t.Errorf("Contacts = %v, %d", l, e)
	}
	if again, e := organ.Play(chapter(), k, api.Contact{Key: 38}); !slices.Equal(again, k) || e != api.OK {
		t.Errorf("Play of 38 again = %v, %d", again, e)
	}
	for _, x := range []struct {
		c api.Contact
		e api.Errno
	}{
		{api.Contact{Key: 49}, api.ErrCompass}, {api.Contact{Key: 35}, api.ErrCompass}, {api.Contact{Key: -1}, api.ErrCompass}, {api.Contact{Key: math.MinInt}, api.ErrCompass}, {api.Contact{Key: math.MaxInt}, api.ErrCompass}, {api.Contact{Key: 128 + 40}, api.ErrCompass},
		{api.Contact{Division: 1, Key: 40}, api.ErrUnknown}, {api.Contact{Division: -1, Key: 40}, api.ErrUnknown}, {api.Contact{Division: math.MinInt, Key: 999}, api.ErrUnknown}, {api.Contact{Division: math.MaxInt, Key: 999}, api.ErrUnknown},
	} {
		if l, e := organ.Play(chapter(), k, x.c); len(l) > 0 || e != x.e {
			t.Errorf("Play(%v) = %v, %d, not %d", x.c, l, e, x.e)
		}
	}
	if l, e := organ.Contacts(example(), api.Keys{notes(96, 40, 64), {}, notes(127, 60)}); !slices.Equal(l, []api.Contact{{Division: 0, Key: 40}, {Division: 0, Key: 64}, {Division: 0, Key: 96}, {Division: 2, Key: 60}, {Division: 2, Key: 127}}) || e != api.OK {
		t.Errorf("Contacts = %v, %d", l, e)
	}
	if l, e := organ.Contacts(example(), make(api.Keys, 3)); len(l) > 0 || e != api.OK {
		t.Errorf("Contacts of no keys = %v, %d", l, e)
	}
}

// P18.7
func TestConsequences(t *testing.T) {
	random := rand.New(rand.NewSource(187))
	o := example()
	none, _ := organ.None(o)
	full, _ := organ.Full(o)
	some := func() api.Registration {
		bits := func(all uint64) uint64 { return random.Uint64() & all }
		return reg(bits(full.Couplers), bits(7), bits(full.Stops[0]), bits(full.Stops[1]), 0)
	}
	for range 50 {
		a, b := some(), some()
		x, _ := organ.Union(o, a, b)
		y, _ := organ.Union(o, b, a)
		z, e := organ.Union(o, a, none)
		if !same(x, y) || !same(z, a) || e != api.OK {
			t.Errorf("Union of %v and %v = %v, or %v; with None %v", a, b, x, y, z)
		}
		stop := random.Intn(3)
		with, _ := organ.With(o, a, 0, stop)
		union, _ := organ.Union(o, a, reg(0, 0, 1<<stop, 0, 0))
		if !same(with, union) {
			t.Errorf("With is %v, not %v", with, union)
		}
	}
	keys := api.Keys{notes(36, 63, 64, 96), notes(24, 25), notes(60, 100, 127)}
	contacts, _ := organ.Contacts(o, keys)
	random.Shuffle(len(contacts), func(i, k int) { contacts[i], contacts[k] = contacts[k], contacts[i] })
	played := make(api.Keys, 3)
	for _, c := range contacts {
		played, _ = organ.Play(o, played, c)
	}
	if !slices.Equal(played, keys) {
		t.Errorf("playing all contacts gives %v, not %v", played, keys)
	}
}

// P18.5, P18.6, P1: arguments stay as they are, and share no memory with results.
func TestMemory(t *testing.T) {
	o, a, b := example(), reg(1, 2, 5, 0, 0), reg(2, 1, 2, 1, 0)
	keys := api.Keys{notes(40), {}, {}}
	same0, _ := organ.With(o, a, 0, 0)
	union, _ := organ.Union(o, a, b)
	alone, _ := organ.Union(o, a, a)
	none, _ := organ.None(o)
	full, _ := organ.Full(o)
	played, _ := organ.Play(o, keys, api.Contact{Key: 40})
	for i, r := range []api.Registration{same0, union, alone, none, full} {
		for k := range r.Stops {
			r.Stops[k] = uint64(90 + i)
		}
	}
	played[0] = notes(1)
	if !same(a, reg(1, 2, 5, 0, 0)) || !same(b, reg(2, 1, 2, 1, 0)) || !slices.Equal(keys, api.Keys{notes(40), {}, {}}) || !organ.Equal(o, example()) {
		t.Errorf("arguments became %v, %v, %v and %v", a, b, keys, o)
	}
	if same0.Stops[0] != 90 || union.Stops[0] != 91 || alone.Stops[0] != 92 || none.Stops[0] != 93 {
		t.Error("results share memory")
	}
	before := copied(o)
	if organ.Check(o) != api.OK || !organ.Equal(o, before) {
		t.Errorf("Check changes the organ to %v", o)
	}
}
