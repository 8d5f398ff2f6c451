package organ

import (
	"slices"

	"bombarde/api"
)

// CheckRegistration returns the error of a registration.
func CheckRegistration(o api.Organ, r api.Registration) api.Errno {
	if e := Check(o); e != api.OK {
		return e
	}
	return checkRegistration(o, r)
}

// checkRegistration returns the error of a registration for a right organ.
func checkRegistration(o api.Organ, r api.Registration) api.Errno {
	if len(r.Stops) != len(o.Divisions) {
		return api.ErrSize
	}
	all := full(o)
	for i, set := range r.Stops {
		if set&^all.Stops[i] != 0 {
			return api.ErrRange
		}
	}
	if r.Couplers&^all.Couplers != 0 || r.Off&^ones(len(o.Divisions)) != 0 {
		return api.ErrRange
	}
	return api.OK
}

// None returns the registration without anything.
func None(o api.Organ) (api.Registration, api.Errno) {
	if e := Check(o); e != api.OK {
		return api.Registration{}, e
	}
	return none(o), api.OK
}

// none returns the registration of a right organ without anything.
func none(o api.Organ) api.Registration {
	return api.Registration{Stops: make([]uint64, len(o.Divisions))}
}

// Full returns the registration with all stops and couplers.
func Full(o api.Organ) (api.Registration, api.Errno) {
	if e := Check(o); e != api.OK {
		return api.Registration{}, e
	}
	return full(o), api.OK
}

// full returns the registration of a right organ with all stops and couplers.
func full(o api.Organ) api.Registration {
	return changed(none(o), func(r *api.Registration) {
		for i, d := range o.Divisions {
			r.Stops[i] = ones(len(d.Stops))
		}
		r.Couplers = ones(len(o.Couplers))
	})
}

// ones returns a number whose lowest bits are set.
func ones(n int) uint64 { return 1<<n - 1 }

// changed returns a copy of a registration with a change.
func changed(r api.Registration, change func(r *api.Registration)) api.Registration {
	other := api.Registration{Stops: slices.Clone(r.Stops), Couplers: r.Couplers, Off: r.Off}
	change(&other)
	return other
}

// With returns a registration with a further stop.
func With(o api.Organ, r api.Registration, division, stop int) (api.Registration, api.Errno) {
	if e := CheckRegistration(o, r); e != api.OK {
		return api.Registration{}, e
	}
	if !isIndex(division, len(o.Divisions)) || !isIndex(stop, len(o.Divisions[division].Stops)) {
		return api.Registration{}, api.ErrUnknown
	}
	return changed(r, func(r *api.Registration) { r.Stops[division] |= 1 << stop }), api.OK
}

// Union returns what two registrations have together.
func Union(o api.Organ, a, b api.Registration) (api.Registration, api.Errno) {
	if e := CheckRegistration(o, a); e != api.OK {
		return api.Registration{}, e
	}
	if e := checkRegistration(o, b); e != api.OK {
		return api.Registration{}, e
	}
	return changed(a, func(r *api.Registration) {
		for i, set := range b.Stops {
			r.Stops[i] |= set
		}
		r.Couplers |= b.Couplers
		r.Off |= b.Off
	}), api.OK
}
