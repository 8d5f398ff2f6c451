package organ

import (
	"slices"

	"bombarde/api"
	"bombarde/noteset"
)

// CheckKeys returns the error of keys.
func CheckKeys(o api.Organ, k api.Keys) api.Errno {
	if e := Check(o); e != api.OK {
		return e
	}
	if len(k) != len(o.Divisions) {
		return api.ErrSize
	}
	for i, d := range o.Divisions {
		all, _ := noteset.Range(d.Keys)
		if !noteset.Within(k[i], all) {
			return api.ErrCompass
		}
	}
	return api.OK
}

// Play returns keys with one further key.
func Play(o api.Organ, k api.Keys, c api.Contact) (api.Keys, api.Errno) {
	if e := CheckKeys(o, k); e != api.OK {
		return nil, e
	}
	if !isIndex(c.Division, len(o.Divisions)) {
		return nil, api.ErrUnknown
	}
	all, _ := noteset.Range(o.Divisions[c.Division].Keys)
	if !noteset.Has(all, c.Key) {
		return nil, api.ErrCompass
	}
	played := slices.Clone(k)
	key, _ := noteset.Of([]int{c.Key})
	played[c.Division] = noteset.Union(played[c.Division], key)
	return played, api.OK
}

// Contacts returns the keys that are played.
func Contacts(o api.Organ, k api.Keys) ([]api.Contact, api.Errno) {
	if e := CheckKeys(o, k); e != api.OK {
		return nil, e
	}
	var l []api.Contact
	for i, set := range k {
		for _, key := range noteset.Members(set) {
			l = append(l, api.Contact{Division: i, Key: key})
		}
	}
	return l, api.OK
}
