package coupler

import (
	"cmp"
	"iter"
	"math/bits"
	"slices"

	"bombarde/api"
	"bombarde/noteset"
)

// Step returns the contact to which a coupler takes another one, if it takes it anywhere.
func Step(a Action, coupler int, from api.Contact) (to api.Contact, found bool, e api.Errno) {
	if e := Right(a); e != api.OK {
		return api.Contact{}, false, e
	}
	if !isIndex(coupler, len(a.Couplers)) {
		return api.Contact{}, false, api.ErrUnknown
	}
	if e := checkContact(a, from); e != api.OK {
		return api.Contact{}, false, e
	}
	to, found = taken(a, coupler, from)
	return to, found, api.OK
}

// taken returns the contact to which a coupler of a right action takes another one, if it takes it anywhere.
func taken(a Action, coupler int, from api.Contact) (to api.Contact, found bool) {
	c := a.Couplers[coupler]
	key := from.Key + c.Shift
	if c.From != from.Division || !isKey(a.Divisions[c.To], key) {
		return api.Contact{}, false
	}
	return api.Contact{Division: c.To, Key: key}, true
}

// Reach returns the contacts to which a played key is taken, in order.
func Reach(a Action, key api.Contact) ([]api.Contact, api.Errno) {
	if e := Right(a); e != api.OK {
		return nil, e
	}
	if e := checkContact(a, key); e != api.OK {
		return nil, e
	}
	l := reached(a, []api.Contact{key})
	slices.SortFunc(l, func(a, b api.Contact) int {
		return cmp.Or(cmp.Compare(a.Division, b.Division), cmp.Compare(a.Key, b.Key))
	})
	return l, api.OK
}

// reached returns the second-hand contacts that come about from played keys, each once.
func reached(a Action, played []api.Contact) []api.Contact {
	var seen [api.MaxDivisions][api.MaxNote + 1]bool
	var queue []api.Contact
	takeOn := func(from api.Contact, couplers uint64) {
		for i := range ones(couplers) {
			if to, found := taken(a, i, from); found && !seen[to.Division][to.Key] {
				seen[to.Division][to.Key] = true
				queue = append(queue, to)
			}
		}
	}
	all, through := leaving(a)
	for _, key := range played {
		takeOn(key, all[key.Division])
	}
	for i := 0; i < len(queue); i++ {
		takeOn(queue[i], through[queue[i].Division])
	}
	return queue
}

// leaving returns the drawn couplers from each division, and those of them with Through, as bits.
func leaving(a Action) (all, through [api.MaxDivisions]uint64) {
	for i := range ones(a.Drawn) {
		c := a.Couplers[i]
		all[c.From] |= 1 << i
		if c.Through {
			through[c.From] |= 1 << i
		}
	}
	return all, through
}

// ones yields the bits of a set in increasing order.
func ones(set uint64) iter.Seq[int] {
	return func(yield func(int) bool) {
		for rest := set; rest != 0 && yield(bits.TrailingZeros64(rest)); {
			rest &= rest - 1
		}
	}
}

// All returns the keys of the contacts to which played keys are taken.
func All(a Action, keys api.Keys) (api.Keys, api.Errno) {
	if e := checkKeys(a, keys); e != api.OK {
		return nil, e
	}
	return keysOf(a, reached(a, contactsOf(keys))), api.OK
}

// contactsOf returns the contacts of keys.
func contactsOf(keys api.Keys) []api.Contact {
	var l []api.Contact
	for i, set := range keys {
		for _, key := range noteset.Members(set) {
			l = append(l, api.Contact{Division: i, Key: key})
		}
	}
	return l
}

// keysOf returns the keys of contacts of a right action.
func keysOf(a Action, l []api.Contact) api.Keys {
	var lists [api.MaxDivisions][]int
	for _, c := range l {
		lists[c.Division] = append(lists[c.Division], c.Key)
	}
	keys := make(api.Keys, len(a.Divisions))
	for i := range keys {
		keys[i], _ = noteset.Of(lists[i])
	}
	return keys
}

// Sounding returns the contacts that sound, where the unison of some divisions is off.
func Sounding(a Action, keys api.Keys, off uint64) (api.Keys, api.Errno) {
	if e := checkKeys(a, keys); e != api.OK {
		return nil, e
	}
	if e := checkBits(off, len(a.Divisions)); e != api.OK {
		return nil, e
	}
	sounding := keysOf(a, reached(a, contactsOf(keys)))
	for i, played := range keys {
		if off>>i&1 == 0 {
			sounding[i] = noteset.Union(sounding[i], played)
		}
	}
	return sounding, api.OK
}

// Matrix returns, for each division, whether keys of it are taken to each division.
func Matrix(a Action) ([][]bool, api.Errno) {
	if e := Right(a); e != api.OK {
		return nil, e
	}
	matrix := make([][]bool, len(a.Divisions))
	for i := range matrix {
		matrix[i] = make([]bool, len(a.Divisions))
		for _, c := range reached(a, contactsOf(keysFrom(a, i))) {
			matrix[i][c.Division] = true
		}
	}
	return matrix, api.OK
}

// keysFrom returns all keys of one division.
func keysFrom(a Action, division int) api.Keys {
	keys := make(api.Keys, len(a.Divisions))
	keys[division], _ = noteset.Range(a.Divisions[division])
	return keys
}

// Back returns the keys that are taken to themselves, in order.
func Back(a Action) ([]api.Contact, api.Errno) {
	if e := Right(a); e != api.OK {
		return nil, e
	}
	var back []api.Contact
	for i := range a.Divisions {
		for _, key := range contactsOf(keysFrom(a, i)) {
			if slices.Contains(reached(a, []api.Contact{key}), key) {
				back = append(back, key)
			}
		}
	}
	return back, api.OK
}

// Idle returns the drawn couplers that take no contact anywhere.
func Idle(a Action) ([]int, api.Errno) {
	if e := Right(a); e != api.OK {
		return nil, e
	}
	var idle []int
	for i := range ones(a.Drawn) {
		c := a.Couplers[i]
		from, to := a.Divisions[c.From], a.Divisions[c.To]
		if from.High+c.Shift < to.Low || from.Low+c.Shift > to.High {
			idle = append(idle, i)
		}
	}
	return idle, api.OK
}
