package book_test

import (
	"fmt"
	"math/rand"
	"testing"

	"forecourt/api"
	"forecourt/book"
)

// formCase is what is wrong with bookings, whatever their classes are.
type formCase struct {
	what string
	l    []api.Booking
	want api.Errno
}

func formCases() []formCase {
	at := func(from, to, made, percent int) []api.Booking {
		return []api.Booking{{Key: "b", Class: "mini", Time: api.Window{From: from, To: to}, Made: made, Percent: percent}}
	}
	b := at(1, 2, 0, 50)[0]
	return []formCase{
		{"none", nil, api.OK},
		{"ordinary", bookings(), api.OK},
		{"MaxBookings", named(api.MaxBookings, "mini", 1, 2), api.OK},
		{"more", named(api.MaxBookings+1, "mini", 1, 2), api.ErrLarge},
		{"large before name", make([]api.Booking, api.MaxBookings+1), api.ErrLarge},
		{"the longest key", []api.Booking{booking(longKey, "mini", 1, 2)}, api.OK},
		{"a longer key", []api.Booking{booking(longerKey, "mini", 1, 2)}, api.ErrName},
		{"no key", []api.Booking{booking("", "mini", 1, 2)}, api.ErrName},
		{"no class", []api.Booking{booking("b", "", 1, 2)}, api.ErrName},
		{"class is no key", []api.Booking{booking("b", "Mini", 1, 2)}, api.ErrName},
		{"name before order", []api.Booking{b, booking("A", "mini", 1, 2)}, api.ErrName},
		{"name of the class before order", []api.Booking{b, booking("a", "Mini", 1, 2)}, api.ErrName},
		{"same key", []api.Booking{b, b}, api.ErrOrder},
		{"lesser key", []api.Booking{b, booking("a", "mini", 1, 2)}, api.ErrOrder},
		{"order before numbers", []api.Booking{b, booking("a", "mini", 2, 1)}, api.ErrOrder},
		{"numbers before the next name", []api.Booking{booking("b", "mini", 2, 1), {}}, api.ErrArg},
		{"at 0", at(0, 1, 0, 50), api.OK},
		{"below 0", at(-1, 1, 0, 50), api.ErrArg},
		{"From is To", at(5, 5, 0, 50), api.ErrArg},
		{"From behind To", at(6, 5, 0, 50), api.ErrArg},
		{"all the time", at(0, api.End-1, 0, 50), api.OK},
		{"the last minute", at(api.End-2, api.End-1, 0, 50), api.OK},
		{"To at End", at(api.End-2, api.End, 0, 50), api.ErrArg},
		{"least and greatest", at(least, greatest, 0, 50), api.ErrArg},
		{"greatest and least", at(greatest, least, 0, 50), api.ErrArg},
		{"least and least", at(least, least, 0, 50), api.ErrArg},
		{"made as it begins", at(5, 6, 5, 50), api.OK},
		{"made later", at(5, 6, 6, 50), api.ErrArg},
		{"made before 0", at(5, 6, -1, 50), api.ErrArg},
		{"made at the greatest", at(5, 6, greatest, 50), api.ErrArg},
		{"Percent 0", at(5, 6, 0, 0), api.OK},
		{"Percent 100", at(5, 6, 0, 100), api.OK},
		{"Percent above", at(5, 6, 0, 101), api.ErrArg},
		{"Percent below", at(5, 6, 0, -1), api.ErrArg},
		{"second", append(at(5, 6, 0, 50), booking("c", "mini", 5, 5)), api.ErrArg},
	}
}

// P3.1
func TestCheck(t *testing.T) {
	for _, c := range formCases() {
		is(t, c.what, book.Check(classes(), c.l), c.want)
	}
	bus := booking("a", "bus", 1, 2)
	is(t, "no such class", book.Check(classes(), []api.Booking{bus}), api.ErrNone)
	is(t, "form before class", book.Check(classes(), []api.Booking{bus, {}}), api.ErrName)
	is(t, "the last class", book.Check(classes(), []api.Booking{booking("a", "van", 1, 2), booking("b", "bus", 1, 2)}), api.ErrNone)
	is(t, "no classes", book.Check(nil, bookings()), api.ErrNone)
	is(t, "nothing", book.Check(nil, nil), api.OK)
	is(t, "classes first", book.Check(badClasses(), badBookings()), badClassesError)
}

// P3.1
func TestCheckStock(t *testing.T) {
	one := func(n int) []api.Stock { return []api.Stock{{Class: "midi", Many: n}} }
	all := many(api.MaxClasses, func(i int) api.Class { return api.Class{Key: key(i)} })
	full := many(api.MaxClasses, func(i int) api.Stock { return api.Stock{Class: key(i), Many: i} })
	cases := []struct {
		what string
		c    []api.Class
		s    []api.Stock
		want api.Errno
	}{
		{"nothing", nil, nil, api.OK},
		{"ordinary", classes(), stock(), api.OK},
		{"classes first", badClasses(), badStock(), badClassesError},
		{"MaxClasses", all, full, api.OK},
		{"more", all, append(full, api.Stock{}), api.ErrLarge},
		{"large before none", classes(), make([]api.Stock, api.MaxClasses+1), api.ErrLarge},
		{"no such class", classes(), []api.Stock{{Class: "bus", Many: 1}}, api.ErrNone},
		{"empty class", classes(), []api.Stock{{}}, api.ErrNone},
		{"none before order", classes(), append(one(1), api.Stock{Class: "bus"}), api.ErrNone},
		{"same class", classes(), append(one(1), one(1)...), api.ErrOrder},
		{"lesser class", classes(), append(one(1), api.Stock{Class: "maxi"}), api.ErrOrder},
		{"order before number", classes(), append(one(1), one(-1)...), api.ErrOrder},
		{"number before the next class", classes(), append(one(-1), api.Stock{Class: "bus"}), api.ErrArg},
		{"none", classes(), one(0), api.OK},
		{"MaxStock", classes(), one(api.MaxStock), api.OK},
		{"above", classes(), one(api.MaxStock + 1), api.ErrArg},
		{"below", classes(), one(-1), api.ErrArg},
		{"greatest", classes(), one(greatest), api.ErrArg},
		{"least", classes(), one(least), api.ErrArg},
	}
	for _, c := range cases {
		is(t, c.what, book.CheckStock(c.c, c.s), c.want)
	}
}

// P3.1
func TestBusy(t *testing.T) {
	cases := []struct {
		what     string
		l        []api.Booking
		class    string
		most, at int
	}{
		{"none", nil, "mini", 0, 0},
		{"two at once", bookings(), "mini", 2, 15},
		{"not of others", bookings(), "midi", 1, 20},
		{"none of the class", bookings(), "boat", 0, 0},
		{"from 0 on", named(1, "mini", 0, 5), "mini", 1, 0},
		{"the last minute", named(2, "mini", api.End-2, api.End-1), "mini", 2, api.End - 2},
		{"one ends as another begins", []api.Booking{booking("a", "mini", 10, 20), booking("b", "mini", 20, 30)}, "mini", 1, 10},
		{"a minute together", []api.Booking{booking("a", "mini", 10, 21), booking("b", "mini", 20, 30)}, "mini", 2, 20},
		{"the first of two times, by keys the last one", []api.Booking{booking("a", "mini", 50, 60), booking("b", "mini", 50, 60), booking("c", "mini", 10, 20), booking("d", "mini", 11, 20)}, "mini", 2, 11},
		{"three later", []api.Booking{booking("a", "mini", 5, 9), booking("b", "mini", 6, 9), booking("c", "mini", 20, 29), booking("d", "mini", 22, 27), booking("e", "mini", 24, 25)}, "mini", 3, 24},
		{"MaxBookings", named(api.MaxBookings, "mini", 7, 8), "mini", api.MaxBookings, 7},
	}
	for _, c := range cases {
		most, at, e := book.Busy(classes(), c.l, c.class)
		is(t, c.what, most, c.most)
		is(t, c.what, at, c.at)
		is(t, c.what, e, api.OK)
	}
	errors := []struct {
		what  string
		c     []api.Class
		l     []api.Booking
		class string
		want  api.Errno
	}{
		{"classes first", badClasses(), badBookings(), "bus", badClassesError},
		{"bookings first", classes(), badBookings(), "bus", badBookingsError},
		{"no such class", classes(), bookings(), "bus", api.ErrNone},
		{"empty class", classes(), bookings(), "", api.ErrNone},
	}
	for _, c := range errors {
		most, at, e := book.Busy(c.c, c.l, c.class)
		is(t, c.what, e, c.want)
		is(t, c.what, most, 0)
		is(t, c.what, at, 0)
	}
}

// P3.1
func TestFree(t *testing.T) {
	cases := []struct {
		what     string
		l        []api.Booking
		class    string
		from, to int
		want     int
	}{
		{"no bookings", nil, "mini", 0, api.End - 1, 2},
		{"no stock", nil, "boat", 0, 1, 0},
		{"a stock of none", bookings(), "van", 5, 6, -1},
		{"below 0 without a stock", named(3, "boat", 10, 20), "boat", 0, 100, -3},
		{"before them", bookings(), "mini", 0, 10, 2},
		{"a minute of the first one", bookings(), "mini", 9, 11, 1},
		{"the minute before both", bookings(), "mini", 14, 15, 1},
		{"the first minute of both", bookings(), "mini", 15, 16, 0},
		{"the last minute of both", bookings(), "mini", 19, 20, 0},
		{"behind the first one", bookings(), "mini", 20, 21, 1},
		{"all of it", bookings(), "mini", 0, 100, 0},
		{"behind both", bookings(), "mini", 30, 100, 2},
		{"they do not meet", []api.Booking{booking("a", "mini", 10, 20), booking("b", "mini", 20, 30)}, "mini", 0, 100, 1},
		{"not of others", bookings(), "midi", 0, 20, 1},
		{"its own", bookings(), "midi", 0, 21, 0},
		{"the last minute", named(1, "mini", api.End-2, api.End-1), "mini", api.End - 2, api.End - 1, 1},
	}
	for _, c := range cases {
		n, e := book.Free(classes(), stock(), c.l, c.class, api.Window{From: c.from, To: c.to})
		is(t, c.what, n, c.want)
		is(t, c.what, e, api.OK)
	}
}

// P3.1
func TestFreeErrors(t *testing.T) {
	windows := []api.Window{{}, {From: -1, To: 5}, {From: 5, To: 5}, {From: 6, To: 5}, {From: 0, To: api.End}, {From: least, To: greatest}, {From: greatest, To: least}, {From: least, To: least}}
	for _, w := range windows {
		n, e := book.Free(classes(), stock(), bookings(), "mini", w)
		is(t, fmt.Sprint(w), n, 0)
		is(t, fmt.Sprint(w), e, api.ErrArg)
		_, e = book.Free(classes(), stock(), bookings(), "bus", w)
		is(t, "class first", e, api.ErrNone)
	}
	n, e := book.Free(classes(), stock(), bookings(), "bus", api.Window{To: 5})
	is(t, "no such class", n, 0)
	is(t, "no such class", e, api.ErrNone)
	checksFirst(t, "Free", func(c []api.Class, s []api.Stock, l []api.Booking) api.Errno {
		n, e := book.Free(c, s, l, "bus", api.Window{})
		is(t, "with an error", n, 0)
		return e
	})
}

// P3.1: minute by minute.
func TestBusyAndFreeAtRandom(t *testing.T) {
	r := rand.New(rand.NewSource(1))
	for range 2000 {
		c, s := someClasses(r)
		l := someBookings(r, c, r.Intn(12), 30)
		mustCheck(t, c, s, l)
		class := c[r.Intn(len(c))].Key
		var on [60]int
		for _, b := range l {
			for at := b.Time.From; at < b.Time.To && b.Class == class; at++ {
				on[at]++
			}
		}
		most, first := 0, 0
		for at, n := range on {
			if n > most {
				most, first = n, at
			}
		}
		n, at, e := book.Busy(c, l, class)
		what := fmt.Sprint(c, s, l, class)
		is(t, what, n, most)
		is(t, what, at, first)
		is(t, what, e, api.OK)

		stock := 0
		for _, x := range s {
			if x.Class == class {
				stock = x.Many
			}
		}
		w := api.Window{From: r.Intn(40)}
		w.To = w.From + 1 + r.Intn(20)
		free := stock
		for at := w.From; at < w.To; at++ {
			free = min(free, stock-on[at])
		}
		n, e = book.Free(c, s, l, class, w)
		is(t, what, n, free)
		is(t, what, e, api.OK)
	}
}
