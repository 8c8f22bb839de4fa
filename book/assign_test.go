package book_test

import (
	"cmp"
	"fmt"
	"math/rand"
	"slices"
	"testing"

	"forecourt/api"
	"forecourt/book"
)

// P3.2
func TestAssign(t *testing.T) {
	cases := []struct {
		what  string
		l     []api.Booking
		words []string // as in given
	}{
		{"none", nil, nil},
		{"one", named(1, "mini", 1, 2), []string{"mini/1"}},
		{"ordinary", bookings(), []string{"mini/1", "mini/2", "midi/1", "maxi/1"}},
		{"up and up, by key", named(4, "mini", 1, 2), []string{"mini/1", "mini/2", "midi/1", "maxi/1"}},
		{"the first one gives way", []api.Booking{booking("a", "midi", 1, 9), booking("b", "midi", 2, 5), booking("c", "midi", 5, 7)}, []string{"maxi/1", "midi/1", "midi/1"}},
		{"a better one is needed", []api.Booking{booking("a", "mini", 1, 9), booking("b", "mini", 1, 9), booking("c", "mini", 1, 9), booking("d", "maxi", 2, 9)}, []string{"mini/1", "mini/2", "midi/1", "maxi/1"}},
		{"another unit, so that others fit in", []api.Booking{booking("a", "mini", 0, 10), booking("b", "mini", 20, 30), booking("c", "mini", 5, 15), booking("d", "mini", 12, 25)}, []string{"mini/1", "mini/2", "mini/2", "mini/1"}},
		{"one vehicle for all, one after the other", many(api.MaxExact, func(i int) api.Booking { return booking(key(i), "maxi", 10*i, 10*i+10) }), []string{"maxi/1", "maxi/1", "maxi/1", "maxi/1", "maxi/1", "maxi/1", "maxi/1"}},
		{"a stock of none is stepped over", named(1, "van", 1, 2), []string{"maxi/1"}},
	}
	for _, c := range cases {
		g, e := book.Assign(classes(), stock(), c.l)
		same(t, c.what, g, given(c.l, c.words...))
		is(t, c.what, e, api.OK)
	}
}

// P3.2: the example of the chapter.
func TestAssignExample(t *testing.T) {
	c := []api.Class{{Key: "midi"}, {Key: "mini", Up: "midi"}}
	s := []api.Stock{{Class: "midi", Many: 1}, {Class: "mini", Many: 1}}
	l := named(2, "mini", 1, 2)
	g, e := book.Assign(c, s, l)
	same(t, "example", g, given(l, "mini/1", "midi/1"))
	is(t, "example", e, api.OK)
	n, _ := book.Upgrades(c, s, l, g)
	is(t, "example", n, 1)
}

// P3.2
func TestAssignErrors(t *testing.T) {
	cases := []struct {
		what string
		l    []api.Booking
		want api.Errno
	}{
		{"no vehicles", named(1, "boat", 1, 2), api.ErrFull},
		{"one too many", named(5, "mini", 1, 2), api.ErrFull},
		{"one too many above", named(2, "maxi", 1, 2), api.ErrFull},
		{"MaxExact", named(api.MaxExact, "mini", 1, 2), api.ErrFull},
		{"more", named(api.MaxExact+1, "mini", 1, 2), api.ErrLarge},
		{"more, which fit", many(api.MaxExact+1, func(i int) api.Booking { return booking(key(i), "mini", i, i+1) }), api.ErrLarge},
		{"MaxBookings", named(api.MaxBookings, "mini", 1, 2), api.ErrLarge},
	}
	for _, c := range cases {
		g, e := book.Assign(classes(), stock(), c.l)
		same(t, c.what, g, nil)
		is(t, c.what, e, c.want)
	}
	checksFirst(t, "Assign", func(c []api.Class, s []api.Stock, l []api.Booking) api.Errno {
		g, e := book.Assign(c, s, l)
		same(t, "with an error", g, nil)
		return e
	})
}

// leastOf goes through all that can be given, and returns the least, by upgrades, then the order of the elements; false if there is nothing right.
func leastOf(c []api.Class, s []api.Stock, l []api.Booking) ([]api.Given, bool) {
	type one struct {
		g     []api.Given
		steps []int
		sum   int
	}
	compare := func(a, b one) int {
		if order := cmp.Compare(a.sum, b.sum); order != 0 {
			return order
		}
		for i := range a.g {
			if order := cmp.Or(cmp.Compare(a.steps[i], b.steps[i]), cmp.Compare(a.g[i].Unit, b.g[i].Unit)); order != 0 {
				return order
			}
		}
		return 0
	}
	var all []one
	var next func(x one)
	next = func(x one) {
		i := len(x.g)
		if i == len(l) {
			all = append(all, x)
			return
		}
		vs, steps := vehicles(c, s, l[i].Class)
		for k, v := range vs {
			v.Booking = l[i].Key
			taken := false
			for j, y := range x.g {
				taken = taken || y.Class == v.Class && y.Unit == v.Unit && together(l[i], l[j])
			}
			if !taken {
				next(one{append(slices.Clone(x.g), v), append(slices.Clone(x.steps), steps[k]), x.sum + steps[k]})
			}
		}
	}
	next(one{})
	if len(all) == 0 {
		return nil, false
	}
	return slices.MinFunc(all, compare).g, true
}

// P3.2: the least of all that are right.
func TestAssignAtRandom(t *testing.T) {
	r := rand.New(rand.NewSource(4))
	full, upgraded := 0, 0
	for range 4000 {
		c, s := someClasses(r)
		l := someBookings(r, c, r.Intn(6), 10)
		mustCheck(t, c, s, l)
		want, ok := leastOf(c, s, l)
		got, e := book.Assign(c, s, l)
		what := fmt.Sprint(c, s, l)
		same(t, what, got, want)
		is(t, what, e == api.OK, ok)
		is(t, what, e == api.ErrFull, !ok)
		if !ok {
			full++
			continue
		}
		is(t, what, book.CheckGiven(c, s, l, got), api.OK)
		if n, _ := book.Upgrades(c, s, l, got); n > 0 {
			upgraded++
		}
	}
	if full < 100 || upgraded < 100 {
		t.Errorf("the cases are too easy: %d full, %d with upgrades", full, upgraded)
	}
}

// P3.2: as before, with MaxExact bookings on a ladder of single vehicles.
func TestAssignMostAtRandom(t *testing.T) {
	r := rand.New(rand.NewSource(5))
	c := []api.Class{{Key: "a", Up: "b"}, {Key: "b", Up: "c"}, {Key: "c", Up: "d"}, {Key: "d", Up: "e"}, {Key: "e"}}
	s := many(5, func(i int) api.Stock { return api.Stock{Class: c[i].Key, Many: 1} })
	for range 60 {
		l := someBookings(r, c[:3], api.MaxExact, 16)
		want, ok := leastOf(c, s, l)
		got, e := book.Assign(c, s, l)
		what := fmt.Sprint(l)
		same(t, what, got, want)
		is(t, what, e == api.OK, ok)
	}
}

// P3.2, Z1: the longest ladder, the greatest stock, and bookings that are all on at one moment.
func TestAssignGreatest(t *testing.T) {
	c := many(api.MaxClasses, func(i int) api.Class { return api.Class{Key: key(i), Up: key(i + 1)} })
	c[api.MaxClasses-1].Up = ""
	single := many(api.MaxClasses, func(i int) api.Stock { return api.Stock{Class: key(i), Many: 1} })
	l := named(api.MaxExact, key(0), 1, 9)
	g, e := book.Assign(c, single, l)
	same(t, "one of each", g, many(api.MaxExact, func(i int) api.Given { return api.Given{Booking: key(i), Class: key(i), Unit: 1} }))
	is(t, "one of each", e, api.OK)

	last := []api.Stock{{Class: key(api.MaxClasses - 1), Many: api.MaxStock}}
	g, e = book.Assign(c, last, l)
	same(t, "the last class", g, many(api.MaxExact, func(i int) api.Given {
		return api.Given{Booking: key(i), Class: key(api.MaxClasses - 1), Unit: i + 1}
	}))
	is(t, "the last class", e, api.OK)
	n, _ := book.Upgrades(c, last, l, g)
	is(t, "the last class", n, api.MaxExact*(api.MaxClasses-1))

	few := single[24:29] // for seven at one moment
	for range 50 {
		_, e = book.Assign(c, few, l)
		is(t, "two too few", e, api.ErrFull)
	}
}
