package hire

import (
	"slices"

	"forecourt/api"
	"forecourt/basic"
)

// CheckAll says whether hires are right.
func CheckAll(l []api.Hire) api.Errno {
	if len(l) > api.MaxHires {
		return api.ErrLarge
	}
	before := "" // less than all keys
	for _, h := range l {
		if e := Check(h); e != api.OK {
			return e
		}
		if h.Key <= before {
			return api.ErrOrder
		}
		before = h.Key
	}
	return api.OK
}

// Clashes returns the hires that cannot both be.
func Clashes(l []api.Hire) ([]api.Clash, api.Errno) {
	if e := CheckAll(l); e != api.OK {
		return nil, e
	}
	var clashes []api.Clash
	for i, a := range l {
		for _, b := range l[i+1:] {
			clashes = append(clashes, clashesOf(a, b)...)
		}
	}
	return clashes, api.OK
}

// clashesOf has what excludes that two hires can both be.
func clashesOf(a, b api.Hire) []api.Clash {
	var clashes []api.Clash
	add := func(kind int, alike func(x, y api.Leg) bool) {
		if at, meet := meeting(a.Legs, b.Legs, alike); meet {
			clashes = append(clashes, api.Clash{A: a.Key, B: b.Key, Kind: kind, At: at})
		}
	}
	add(api.ClashVehicle, func(x, y api.Leg) bool { return x.Vehicle == y.Vehicle })
	add(api.ClashDriver, func(_, _ api.Leg) bool { return a.Driver == b.Driver })
	return clashes
}

// meeting is the least moment at which legs of two hires last that are alike, and whether there is one. The legs of a hire come one after the other.
func meeting(a, b []api.Leg, alike func(x, y api.Leg) bool) (int, bool) {
	for len(a) > 0 && len(b) > 0 {
		x, y := basic.Lasts(a[0]), basic.Lasts(b[0])
		from := max(x.From, y.From)
		if from < min(x.To, y.To) && alike(a[0], b[0]) {
			return from, true
		}
		// What ends first meets none of those that follow.
		if x.To <= y.To {
			a = a[1:]
		} else {
			b = b[1:]
		}
	}
	return 0, false
}

// With is the hire that has a vehicle at a moment.
func With(l []api.Hire, vehicle string, at int) (string, bool, api.Errno) {
	if e := CheckAll(l); e != api.OK {
		return "", false, e
	}
	if !basic.IsKey(vehicle) {
		return "", false, api.ErrName
	}
	if !basic.IsMoment(at) {
		return "", false, api.ErrArg
	}
	has := func(leg api.Leg) bool { return leg.Vehicle == vehicle && basic.Has(basic.Lasts(leg), at) }
	for _, h := range l {
		if slices.ContainsFunc(h.Legs, has) {
			return h.Key, true, api.OK
		}
	}
	return "", false, api.OK
}

// Overdue returns the hires that should have ended.
func Overdue(l []api.Hire, at int) ([]string, api.Errno) {
	if e := CheckAll(l); e != api.OK {
		return nil, e
	}
	if !basic.IsMoment(at) {
		return nil, api.ErrArg
	}
	var keys []string
	for _, h := range l {
		if isOpen(h) && h.Time.To <= at {
			keys = append(keys, h.Key)
		}
	}
	return keys, api.OK
}
