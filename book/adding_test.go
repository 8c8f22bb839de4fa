package book_test

import (
	"cmp"
	"fmt"
	"math/rand"
	"slices"
	"testing"

	"forecourt/api"
	"forecourt/book"
)

// P3.3
func TestCan(t *testing.T) {
	cases := []struct {
		what string
		l    []api.Booking
		b    api.Booking
		want bool
	}{
		{"the first one", nil, booking("x", "mini", 1, 2), true},
		{"no vehicles", nil, booking("x", "boat", 1, 2), false},
		{"the last vehicle", named(3, "mini", 1, 2), booking("x", "mini", 1, 2), true},
		{"none is left", named(4, "mini", 1, 2), booking("x", "mini", 1, 2), false},
		{"none is left for a key before the others", named(4, "mini", 1, 2), booking("a", "mini", 1, 2), false},
		{"those that were there get others", named(2, "midi", 5, 9), booking("x", "mini", 5, 9), true},
		{"an upgrade is taken back", []api.Booking{booking("b", "midi", 1, 5), booking("c", "midi", 4, 9)}, booking("a", "maxi", 9, 20), true},
		{"as the others are over", named(4, "mini", 1, 5), booking("x", "mini", 5, 6), true},
		{"a minute before they are over", named(4, "mini", 1, 5), booking("x", "mini", 4, 6), false},
		{"the others are too many already", named(2, "maxi", 1, 2), booking("x", "mini", 100, 200), false},
	}
	for _, c := range cases {
		ok, e := book.Can(classes(), stock(), c.l, c.b)
		is(t, c.what, ok, c.want)
		is(t, c.what, e, api.OK)
	}
	six := many(api.MaxExact-1, func(i int) api.Booking { return booking(key(i), "mini", i, i+1) })
	ok, e := book.Can(classes(), stock(), six, booking("x", "mini", 1, 2))
	is(t, "the seventh one", ok, true)
	is(t, "the seventh one", e, api.OK)
}

// newCase is what is wrong with a booking that is added.
type newCase struct {
	what string
	l    []api.Booking
	b    api.Booking
	want api.Errno
}

func newCases() []newCase {
	seven := many(api.MaxExact, func(i int) api.Booking { return booking(key(i), "mini", i, i+1) })
	return []newCase{
		{"key", seven, booking("A", "bus", 1, 1), api.ErrName},
		{"class is no key", seven, booking(key(0), "", 1, 1), api.ErrName},
		{"time", seven, booking(key(0), "bus", 1, 1), api.ErrArg},
		{"time at End", seven, booking(key(0), "bus", 1, api.End), api.ErrArg},
		{"greatest time", seven, booking(key(0), "bus", greatest-1, greatest), api.ErrArg},
		{"made", seven, made(booking(key(0), "bus", 1, 2), 2), api.ErrArg},
		{"percent", seven, percent(booking(key(0), "bus", 1, 2), 101), api.ErrArg},
		{"no such class", seven, booking(key(0), "bus", 1, 2), api.ErrNone},
		{"twice, the first one", seven, booking(key(0), "mini", 1, 2), api.ErrTwice},
		{"twice, the last one", seven, booking(key(6), "boat", 1, 2), api.ErrTwice},
		{"twice, of a few", seven[:2], booking(key(1), "mini", 1, 2), api.ErrTwice},
		{"MaxExact", seven, booking("x", "mini", 100, 200), api.ErrLarge},
		{"MaxExact, and no vehicles", seven, booking("x", "boat", 100, 200), api.ErrLarge},
		{"more", named(api.MaxBookings, "mini", 1, 2), booking("x", "mini", 100, 200), api.ErrLarge},
	}
}

// P3.3
func TestCanErrors(t *testing.T) {
	for _, c := range newCases() {
		ok, e := book.Can(classes(), stock(), c.l, c.b)
		is(t, c.what, ok, false)
		is(t, c.what, e, c.want)
		from, e := book.Earliest(classes(), stock(), c.l, c.b)
		is(t, c.what+": Earliest", from, 0)
		is(t, c.what+": Earliest", e, c.want)
	}
	wrong := booking("x", "mini", 2, 1)
	checksFirst(t, "Can", func(c []api.Class, s []api.Stock, l []api.Booking) api.Errno {
		ok, e := book.Can(c, s, l, wrong)
		is(t, "with an error", ok, false)
		return e
	})
	checksFirst(t, "Earliest", func(c []api.Class, s []api.Stock, l []api.Booking) api.Errno {
		from, e := book.Earliest(c, s, l, wrong)
		is(t, "with an error", from, 0)
		return e
	})
}

// P3.3
func TestEarliest(t *testing.T) {
	maxi := func(key string, from, to int) api.Booking { return booking(key, "maxi", from, to) }
	cases := []struct {
		what string
		l    []api.Booking
		b    api.Booking
		want int
		e    api.Errno
	}{
		{"at once", nil, maxi("x", 7, 9), 7, api.OK},
		{"from 0 on", nil, maxi("x", 0, 9), 0, api.OK},
		{"not before From", []api.Booking{maxi("a", 20, 30)}, maxi("x", 7, 9), 7, api.OK},
		{"behind another one", []api.Booking{maxi("a", 5, 30)}, maxi("x", 7, 9), 30, api.OK},
		{"just before another one", []api.Booking{maxi("a", 9, 30)}, maxi("x", 7, 9), 7, api.OK},
		{"in a gap", []api.Booking{maxi("a", 5, 30), maxi("b", 32, 40)}, maxi("x", 7, 9), 30, api.OK},
		{"not in a gap that is too short", []api.Booking{maxi("a", 5, 30), maxi("b", 31, 40)}, maxi("x", 7, 9), 40, api.OK},
		{"as one of two is over", []api.Booking{booking("a", "midi", 5, 30), booking("b", "midi", 5, 20)}, booking("x", "midi", 7, 9), 20, api.OK},
		{"at the very end", []api.Booking{maxi("a", 5, api.End-11)}, maxi("x", 7, 17), api.End - 11, api.OK},
		{"a minute too late", []api.Booking{maxi("a", 5, api.End-10)}, maxi("x", 7, 17), 0, api.ErrFull},
		{"no vehicles", nil, booking("x", "boat", 7, 9), 0, api.ErrFull},
		{"the others are too many", []api.Booking{maxi("a", 5, 9), maxi("b", 8, 12)}, maxi("x", 7, 9), 0, api.ErrFull},
		{"made stays as it is", []api.Booking{maxi("a", 5, 30)}, made(maxi("x", 7, 9), 7), 30, api.OK},
	}
	for _, c := range cases {
		from, e := book.Earliest(classes(), stock(), c.l, c.b)
		is(t, c.what, from, c.want)
		is(t, c.what, e, c.e)
	}
}

// P3.3: Can is what Assign says, and Earliest the first minute at which Can says so.
func TestAddingAtRandom(t *testing.T) {
	r := rand.New(rand.NewSource(6))
	full, later := 0, 0
	for range 1500 {
		c, s := someClasses(r)
		l := someBookings(r, c, 1+r.Intn(api.MaxExact), 10)
		number := r.Intn(len(l))
		b := l[number]
		others := slices.Delete(slices.Clone(l), number, number+1)
		what := fmt.Sprint(c, s, others, b)
		_, want := book.Assign(c, s, l)
		ok, e := book.Can(c, s, others, b)
		is(t, what, ok, want == api.OK)
		is(t, what, e, api.OK)

		first, found := 0, false
		for from := b.Time.From; from < 30 && !found; from++ {
			moved := b
			moved.Time = api.Window{From: from, To: from + b.Time.To - b.Time.From}
			first = from
			found, _ = book.Can(c, s, others, moved)
		}
		from, e := book.Earliest(c, s, others, b)
		if !found {
			full++
			first = 0
		} else if first > b.Time.From {
			later++
		}
		is(t, what, from, first)
		is(t, what, e == api.OK, found)
		is(t, what, e == api.ErrFull, !found)
	}
	if full < 50 || later < 50 {
		t.Errorf("the cases are too easy: %d full, %d later", full, later)
	}
}

// P3.3
func TestPromote(t *testing.T) {
	apart := func(count int) []api.Booking {
		return many(count, func(i int) api.Booking { return booking(key(i), "mini", 10*i, 10*i+10) })
	}
	cases := []struct {
		what       string
		l, waiting []api.Booking
		want       []string
	}{
		{"nobody waits", bookings(), nil, nil},
		{"nothing", nil, nil, nil},
		{"all of them", nil, named(4, "mini", 1, 2), []string{"k00000", "k00001", "k00002", "k00003"}},
		{"as far as there are vehicles", nil, named(6, "mini", 1, 2), []string{"k00000", "k00001", "k00002", "k00003"}},
		{"by Made", nil, []api.Booking{made(booking("a", "maxi", 9, 20), 5), made(booking("b", "maxi", 8, 20), 4), made(booking("c", "maxi", 20, 30), 9)}, []string{"b", "c"}},
		{"of equal ones by Key", nil, []api.Booking{made(booking("a", "maxi", 9, 20), 5), made(booking("b", "maxi", 8, 20), 5)}, []string{"a"}},
		{"in the order in which they are added", nil, []api.Booking{made(booking("a", "mini", 9, 20), 5), made(booking("b", "mini", 8, 20), 4)}, []string{"b", "a"}},
		{"one who does not fit in stops nobody", []api.Booking{booking("a", "maxi", 5, 10)}, []api.Booking{booking("x", "maxi", 9, 20), booking("y", "maxi", 10, 20)}, []string{"y"}},
		{"one who was added is in the way", []api.Booking{booking("a", "maxi", 5, 10)}, []api.Booking{booking("x", "maxi", 10, 20), booking("y", "maxi", 19, 25)}, []string{"x"}},
		{"keys before those of the bookings", named(1, "maxi", 5, 10), []api.Booking{booking("a", "mini", 5, 10), booking("b", "maxi", 5, 10)}, []string{"a"}},
		{"up to MaxExact", apart(5), []api.Booking{booking("x", "mini", 100, 200), booking("y", "mini", 200, 300), booking("z", "mini", 300, 400)}, []string{"x", "y"}},
		{"MaxExact already", apart(api.MaxExact), []api.Booking{booking("x", "mini", 100, 200)}, nil},
	}
	for _, c := range cases {
		keys, e := book.Promote(classes(), stock(), c.l, c.waiting)
		same(t, c.what, keys, c.want)
		is(t, c.what, e, api.OK)
	}
	long := many(api.MaxBookings, func(i int) api.Booking { return booking(key(i), "maxi", 5, 10) })
	keys, e := book.Promote(classes(), stock(), nil, long)
	same(t, "MaxBookings", keys, []string{key(0)})
	is(t, "MaxBookings", e, api.OK)
	mixed := many(api.MaxBookings, func(i int) api.Booking { return made(booking(key(i), "mini", 10*i+5, 10*i+15), 4-i%5) })
	keys, e = book.Promote(classes(), stock(), nil, mixed)
	same(t, "equal ones, between others", keys, []string{key(4), key(9), key(14), key(19), key(24), key(29), key(34)})
	is(t, "equal ones, between others", e, api.OK)
}

// P3.3: each case has errors that come later, too.
func TestPromoteErrors(t *testing.T) {
	eight := named(api.MaxExact+1, "maxi", 1, 2)
	cases := []struct {
		what       string
		l, waiting []api.Booking
		want       api.Errno
	}{
		{"many who wait", eight, many(api.MaxBookings+1, func(int) api.Booking { return api.Booking{} }), api.ErrLarge},
		{"form of those who wait", eight, []api.Booking{eight[0], {}}, api.ErrName},
		{"order of those who wait", eight, []api.Booking{eight[1], eight[0]}, api.ErrOrder},
		{"time of those who wait", eight, []api.Booking{eight[1], booking("x", "bus", 2, 2)}, api.ErrArg},
		{"class of those who wait", eight, []api.Booking{eight[1], booking("x", "bus", 2, 3)}, api.ErrNone},
		{"twice", eight, []api.Booking{booking("a", "mini", 1, 2), eight[7]}, api.ErrTwice},
		{"twice, of a few", eight[:2], eight[1:2], api.ErrTwice},
		{"more than MaxExact", eight, []api.Booking{booking("x", "mini", 1, 2)}, api.ErrLarge},
		{"more than MaxExact, and nobody waits", eight, nil, api.ErrLarge},
		{"MaxExact without enough vehicles", eight[:api.MaxExact], nil, api.ErrFull},
		{"not enough vehicles", eight[:2], []api.Booking{booking("x", "mini", 1, 2)}, api.ErrFull},
		{"not enough vehicles, and nobody waits", eight[:2], nil, api.ErrFull},
	}
	for _, c := range cases {
		keys, e := book.Promote(classes(), stock(), c.l, c.waiting)
		same(t, c.what, keys, nil)
		is(t, c.what, e, c.want)
	}
	checksFirst(t, "Promote", func(c []api.Class, s []api.Stock, l []api.Booking) api.Errno {
		keys, e := book.Promote(c, s, l, badBookings())
		same(t, "with an error", keys, nil)
		return e
	})
}

// P3.3: one after the other, as Can says.
func TestPromoteAtRandom(t *testing.T) {
	r := rand.New(rand.NewSource(7))
	added, left := 0, 0
	for range 1500 {
		c, s := someClasses(r)
		all := someBookings(r, c, r.Intn(12), 12)
		var l, waiting []api.Booking
		for _, b := range all {
			if len(l) < 4 && r.Intn(3) == 0 {
				l = append(l, b)
			} else {
				b.Made = min(b.Made, 2) // many are equal
				waiting = append(waiting, b)
			}
		}
		if _, e := book.Assign(c, s, l); e != api.OK {
			continue
		}
		what := fmt.Sprint(c, s, l, waiting)
		got, e := book.Promote(c, s, l, waiting)
		is(t, what, e, api.OK)
		order := slices.Clone(waiting)
		slices.SortStableFunc(order, func(a, b api.Booking) int { return cmp.Compare(a.Made, b.Made) })
		var want []string
		for _, b := range order {
			if ok, _ := book.Can(c, s, l, b); ok {
				want = append(want, b.Key)
				l = append(slices.Clone(l), b)
				slices.SortFunc(l, func(a, b api.Booking) int { return cmp.Compare(a.Key, b.Key) })
			}
		}
		same(t, what, got, want)
		added += len(got)
		left += len(waiting) - len(got)
	}
	if added < 500 || left < 500 {
		t.Errorf("the cases are too easy: %d added, %d left", added, left)
	}
}
