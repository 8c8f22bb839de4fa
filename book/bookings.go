// Package book has reservations: what is free, who gets which vehicle, and how likely it is that too many come.
package book

import (
	"slices"

	"forecourt/api"
	"forecourt/basic"
	"forecourt/lot"
)

// Check says whether bookings are right.
func Check(classes []api.Class, l []api.Booking) api.Errno {
	if e := lot.CheckClasses(classes); e != api.OK {
		return e
	}
	if e := checkForm(l); e != api.OK {
		return e
	}
	for _, b := range l {
		if !hasClass(classes, b.Class) {
			return api.ErrNone
		}
	}
	return api.OK
}

// checkForm says whether bookings are well formed.
func checkForm(l []api.Booking) api.Errno {
	if len(l) > api.MaxBookings {
		return api.ErrLarge
	}
	before := "" // less than all keys
	for _, b := range l {
		switch {
		case !basic.IsKey(b.Key) || !basic.IsKey(b.Class):
			return api.ErrName
		case b.Key <= before:
			return api.ErrOrder
		case !basic.IsTime(b.Time) || !basic.Within(b.Made, 0, b.Time.From) || !basic.Within(b.Percent, 0, certain):
			return api.ErrArg
		}
		before = b.Key
	}
	return api.OK
}

func hasClass(classes []api.Class, key string) bool {
	return slices.ContainsFunc(classes, func(c api.Class) bool { return c.Key == key })
}

// CheckStock says whether a stock is right.
func CheckStock(classes []api.Class, s []api.Stock) api.Errno {
	if e := lot.CheckClasses(classes); e != api.OK {
		return e
	}
	if len(s) > api.MaxClasses {
		return api.ErrLarge
	}
	before := "" // less than all keys
	for _, x := range s {
		switch {
		case !hasClass(classes, x.Class):
			return api.ErrNone
		case x.Class <= before:
			return api.ErrOrder
		case !basic.Within(x.Many, 0, api.MaxStock):
			return api.ErrArg
		}
		before = x.Class
	}
	return api.OK
}

// checkBoth says whether a stock and bookings are right.
func checkBoth(classes []api.Class, s []api.Stock, l []api.Booking) api.Errno {
	if e := CheckStock(classes, s); e != api.OK {
		return e
	}
	return Check(classes, l)
}

// Busy is the greatest number of bookings of a class at one moment, and the first such moment.
func Busy(classes []api.Class, l []api.Booking, class string) (int, int, api.Errno) {
	if e := Check(classes, l); e != api.OK {
		return 0, 0, e
	}
	if !hasClass(classes, class) {
		return 0, 0, api.ErrNone
	}
	most, at := busiest(l, class, api.Window{From: 0, To: api.End})
	return most, at, api.OK
}

// Free is how many vehicles of a class are free all the time.
func Free(classes []api.Class, s []api.Stock, l []api.Booking, class string, w api.Window) (int, api.Errno) {
	if e := checkBoth(classes, s, l); e != api.OK {
		return 0, e
	}
	if !hasClass(classes, class) {
		return 0, api.ErrNone
	}
	if !basic.IsTime(w) {
		return 0, api.ErrArg
	}
	most, _ := busiest(l, class, w)
	return manyOf(s)[class] - most, api.OK
}

// busiest is the greatest number of bookings of a class at one moment of a window, and the first such moment. There are more at a moment than before it only where one begins.
func busiest(l []api.Booking, class string, w api.Window) (int, int) {
	moments := []int{w.From}
	for _, b := range l {
		if b.Class == class && w.From < b.Time.From && b.Time.From < w.To {
			moments = append(moments, b.Time.From)
		}
	}
	slices.Sort(moments)
	most, first := 0, w.From
	for _, at := range moments {
		if n := countOn(l, class, at); n > most {
			most, first = n, at
		}
	}
	return most, first
}

// countOn is how many bookings of a class are on at a moment.
func countOn(l []api.Booking, class string, at int) int {
	n := 0
	for _, b := range l {
		if b.Class == class && basic.Has(b.Time, at) {
			n++
		}
	}
	return n
}
