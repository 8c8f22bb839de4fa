package book

import (
	"cmp"
	"slices"
	"strings"

	"forecourt/api"
)

// Can says whether a booking can be added.
func Can(classes []api.Class, s []api.Stock, l []api.Booking, b api.Booking) (bool, api.Errno) {
	if e := checkNew(classes, s, l, b); e != api.OK {
		return false, e
	}
	more := with(l, b)
	return poolOf(classes, s, more).isEnough(more), api.OK
}

// checkNew says whether a booking is right, and can be added to others without being too many.
func checkNew(classes []api.Class, s []api.Stock, l []api.Booking, b api.Booking) api.Errno {
	if e := checkBoth(classes, s, l); e != api.OK {
		return e
	}
	if e := Check(classes, []api.Booking{b}); e != api.OK {
		return e
	}
	if _, has := placeOf(l, b.Key); has {
		return api.ErrTwice
	}
	if len(l) >= api.MaxExact {
		return api.ErrLarge
	}
	return api.OK
}

// isEnough says whether there are vehicles for all of a few bookings.
func (p pool) isEnough(l []api.Booking) bool {
	_, ok := p.assign(l)
	return ok
}

// placeOf is where the booking with a key is or would be, and whether it is there.
func placeOf(l []api.Booking, key string) (int, bool) {
	return slices.BinarySearchFunc(l, key, func(b api.Booking, key string) int { return strings.Compare(b.Key, key) })
}

// with adds a booking with a new key.
func with(l []api.Booking, b api.Booking) []api.Booking {
	at, _ := placeOf(l, b.Key)
	return slices.Concat(l[:at], []api.Booking{b}, l[at:])
}

// Earliest is when a booking can begin.
func Earliest(classes []api.Class, s []api.Stock, l []api.Booking, b api.Booking) (int, api.Errno) {
	if e := checkNew(classes, s, l, b); e != api.OK {
		return 0, e
	}
	p := poolOf(classes, s, with(l, b))
	long := b.Time.To - b.Time.From
	for _, from := range begins(l, b.Time.From) {
		if from+long >= api.End {
			break
		}
		b.Time = api.Window{From: from, To: from + long}
		if p.isEnough(with(l, b)) {
			return from, api.OK
		}
	}
	return 0, api.ErrFull
}

// begins are the moments at which a booking can begin, from one on: it meets fewer others than a minute before only where one of them is over.
func begins(l []api.Booking, first int) []int {
	moments := []int{first}
	for _, b := range l {
		if b.Time.To > first {
			moments = append(moments, b.Time.To)
		}
	}
	slices.Sort(moments)
	return moments
}

// Promote adds those who wait, as far as they can be added.
func Promote(classes []api.Class, s []api.Stock, l, waiting []api.Booking) ([]string, api.Errno) {
	if e := checkWaiting(classes, s, l, waiting); e != api.OK {
		return nil, e
	}
	p := poolOf(classes, s, slices.Concat(l, waiting))
	if !p.isEnough(l) {
		return nil, api.ErrFull
	}
	var added []string
	for _, b := range byMade(waiting) {
		if len(l) == api.MaxExact {
			break
		}
		if more := with(l, b); p.isEnough(more) {
			l = more
			added = append(added, b.Key)
		}
	}
	return added, api.OK
}

// checkWaiting says whether those who wait are right, and there are few enough bookings.
func checkWaiting(classes []api.Class, s []api.Stock, l, waiting []api.Booking) api.Errno {
	if e := checkBoth(classes, s, l); e != api.OK {
		return e
	}
	if e := Check(classes, waiting); e != api.OK {
		return e
	}
	for _, b := range waiting {
		if _, has := placeOf(l, b.Key); has {
			return api.ErrTwice
		}
	}
	if len(l) > api.MaxExact {
		return api.ErrLarge
	}
	return api.OK
}

// byMade has bookings in the order in which they were made, then by their keys.
func byMade(l []api.Booking) []api.Booking {
	return slices.SortedFunc(slices.Values(l), func(a, b api.Booking) int {
		return cmp.Or(cmp.Compare(a.Made, b.Made), strings.Compare(a.Key, b.Key))
	})
}
