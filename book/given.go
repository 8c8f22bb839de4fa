package book

import (
	"cmp"
	"slices"
	"strings"

	"forecourt/api"
	"forecourt/basic"
)

// CheckGiven says whether given vehicles are right for bookings.
func CheckGiven(classes []api.Class, s []api.Stock, l []api.Booking, g []api.Given) api.Errno {
	if e := checkBoth(classes, s, l); e != api.OK {
		return e
	}
	sameKey := func(b api.Booking, x api.Given) bool { return b.Key == x.Booking }
	if !slices.EqualFunc(l, g, sameKey) {
		return api.ErrForm
	}
	p := poolOf(classes, s, l)
	given := make([]vehicle, len(g))
	for i, x := range g {
		switch {
		case !hasClass(classes, x.Class):
			return api.ErrNone
		case p.steps(l[i].Class, x.Class) < 0:
			return api.ErrRule
		case !basic.Within(x.Unit, 1, p.many[x.Class]):
			return api.ErrArg
		}
		given[i] = vehicle{x.Class, x.Unit}
	}
	for i, v := range given {
		if isTaken(l, given, i, v) {
			return api.ErrConflict
		}
	}
	return api.OK
}

// Upgrades is how many steps up bookings get.
func Upgrades(classes []api.Class, s []api.Stock, l []api.Booking, g []api.Given) (int, api.Errno) {
	if e := CheckGiven(classes, s, l, g); e != api.OK {
		return 0, e
	}
	p := poolOf(classes, s, l)
	sum := 0
	for i, x := range g {
		sum += p.steps(l[i].Class, x.Class)
	}
	return sum, api.OK
}

// Greedy gives vehicles to bookings as they begin. It returns them, and the keys of the bookings that get none.
func Greedy(classes []api.Class, s []api.Stock, l []api.Booking) ([]api.Given, []string, api.Errno) {
	if e := checkBoth(classes, s, l); e != api.OK {
		return nil, nil, e
	}
	vehicles := poolOf(classes, s, l).greedy(l)
	var given []api.Given
	var left []string
	for _, b := range l {
		if v, has := vehicles[b.Key]; has {
			given = append(given, api.Given{Booking: b.Key, Class: v.class, Unit: v.unit})
		} else {
			left = append(left, b.Key)
		}
	}
	return given, left, api.OK
}

// greedy has the vehicle of each booking that gets one.
func (p pool) greedy(l []api.Booking) map[string]vehicle {
	given := map[string]vehicle{}
	// Those that had a vehicle before began before: it is free when the last one of them is over.
	over := map[vehicle]int{}
	for _, b := range byBegin(l) {
		for _, v := range p.choices(b.Class) {
			if over[v] <= b.Time.From {
				given[b.Key], over[v] = v, b.Time.To
				break
			}
		}
	}
	return given
}

// byBegin has bookings in the order in which they begin, then by their keys.
func byBegin(l []api.Booking) []api.Booking {
	return slices.SortedFunc(slices.Values(l), func(a, b api.Booking) int {
		return cmp.Or(cmp.Compare(a.Time.From, b.Time.From), strings.Compare(a.Key, b.Key))
	})
}
