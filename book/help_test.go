package book_test

import (
	"fmt"
	"math/rand"
	"slices"
	"strings"
	"testing"

	"forecourt/api"
	"forecourt/book"
)

// is reports values that differ; lists go to same, for which an empty list is a nil one.
func is[T comparable](t *testing.T, what string, got, want T) {
	t.Helper()
	if got != want {
		t.Errorf("%s: got %v, want %v", what, got, want)
	}
}

func same[T comparable](t *testing.T, what string, got, want []T) {
	t.Helper()
	if !slices.Equal(got, want) {
		t.Errorf("%s: got %v, want %v", what, got, want)
	}
}

// many makes a list of so many elements from their numbers.
func many[T any](count int, element func(i int) T) []T {
	var l []T
	for i := range count {
		l = append(l, element(i))
	}
	return l
}

// key makes keys that are in the order of their numbers.
func key(i int) string { return fmt.Sprintf("k%05d", i) }

// The longest key, and one that is too long.
var (
	longKey   = strings.Repeat("k", api.MaxName)
	longerKey = strings.Repeat("k", api.MaxName+1)
)

const least, greatest = -1 << 63, 1<<63 - 1

// classes has mini below midi below maxi, van below maxi, and boat alone.
func classes() []api.Class {
	return []api.Class{{Key: "boat"}, {Key: "maxi"}, {Key: "midi", Up: "maxi"}, {Key: "mini", Up: "midi"}, {Key: "van", Up: "maxi"}}
}

// stock has no boats.
func stock() []api.Stock {
	return []api.Stock{{Class: "maxi", Many: 1}, {Class: "midi", Many: 1}, {Class: "mini", Many: 2}, {Class: "van", Many: 0}}
}

func booking(key, class string, from, to int) api.Booking {
	return api.Booking{Key: key, Class: class, Time: api.Window{From: from, To: to}, Percent: 50}
}

func made(b api.Booking, at int) api.Booking {
	b.Made = at
	return b
}

func percent(b api.Booking, n int) api.Booking {
	b.Percent = n
	return b
}

// bookings are some that are right.
func bookings() []api.Booking {
	return []api.Booking{booking("a", "mini", 10, 20), booking("b", "mini", 15, 30), booking("c", "midi", 20, 40), booking("d", "van", 5, 50)}
}

// named is for bookings k00000, k00001 .. of one class, at one time.
func named(count int, class string, from, to int) []api.Booking {
	return many(count, func(i int) api.Booking { return booking(key(i), class, from, to) })
}

// given makes given vehicles from words such as mini/1, for the bookings of their places.
func given(l []api.Booking, words ...string) []api.Given {
	var g []api.Given
	for i, w := range words {
		class, unit, _ := strings.Cut(w, "/")
		g = append(g, api.Given{Booking: l[i].Key, Class: class, Unit: int(unit[0] - '0')})
	}
	return g
}

// keysOf has the keys of bookings.
func keysOf(l []api.Booking) []string {
	var keys []string
	for _, b := range l {
		keys = append(keys, b.Key)
	}
	return keys
}

// Values with one error each, which no other value of the tests has in the place where it is used.
func badClasses() []api.Class { return []api.Class{{Key: "a", Up: "a"}} }

func badStock() []api.Stock {
	return []api.Stock{{Class: "midi", Many: 1}, {Class: "midi", Many: 1}}
}

func badBookings() []api.Booking { return []api.Booking{{Key: "A"}} }

const (
	badClassesError  = api.ErrLoop
	badStockError    = api.ErrOrder
	badBookingsError = api.ErrName
)

// checksFirst says that a function has the errors of CheckStock, then of Check, before its own; it is called with other arguments that are wrong.
func checksFirst(t *testing.T, what string, call func(c []api.Class, s []api.Stock, l []api.Booking) api.Errno) {
	t.Helper()
	is(t, what+": classes", call(badClasses(), badStock(), badBookings()), badClassesError)
	is(t, what+": many classes", call(many(api.MaxClasses+1, func(i int) api.Class { return api.Class{Key: key(i)} }), badStock(), badBookings()), api.ErrLarge)
	is(t, what+": stock", call(classes(), badStock(), badBookings()), badStockError)
	is(t, what+": stock of no class", call(classes(), []api.Stock{{Class: "bus"}}, badBookings()), api.ErrNone)
	is(t, what+": bookings", call(classes(), stock(), badBookings()), badBookingsError)
	is(t, what+": many bookings", call(classes(), stock(), named(api.MaxBookings+1, "mini", 1, 2)), api.ErrLarge)
	is(t, what+": bookings of no class", call(classes(), stock(), []api.Booking{booking("a", "bus", 1, 2)}), api.ErrNone)
}

// someClasses makes a few classes, of which some lead to others, and their stock.
func someClasses(r *rand.Rand) ([]api.Class, []api.Stock) {
	keys := []string{"a", "b", "c", "d"}[:1+r.Intn(4)]
	order := r.Perm(len(keys))
	var c []api.Class
	var s []api.Stock
	for i, k := range keys {
		up := ""
		// Those with a greater place in order can be above: there are no loops.
		if place := order[i] + 1 + r.Intn(2); place < len(keys) {
			up = keys[slices.Index(order, place)]
		}
		c = append(c, api.Class{Key: k, Up: up})
		if r.Intn(5) > 0 {
			s = append(s, api.Stock{Class: k, Many: r.Intn(3)})
		}
	}
	return c, s
}

// someBookings makes bookings of classes, in the first minutes.
func someBookings(r *rand.Rand, c []api.Class, count, minutes int) []api.Booking {
	return many(count, func(i int) api.Booking {
		b := booking(key(i), c[r.Intn(len(c))].Key, r.Intn(minutes), 0)
		b.Time.To = b.Time.From + 1 + r.Intn(minutes/2)
		b.Made = r.Intn(b.Time.From + 1)
		b.Percent = r.Intn(101)
		return b
	})
}

// mustCheck is for tests that need what is right.
func mustCheck(t *testing.T, c []api.Class, s []api.Stock, l []api.Booking) {
	t.Helper()
	if e := book.CheckStock(c, s); e != api.OK {
		t.Fatalf("the stock of the test has error %d: %v of %v", e, s, c)
	}
	if e := book.Check(c, l); e != api.OK {
		t.Fatalf("the bookings of the test have error %d: %v", e, l)
	}
}
