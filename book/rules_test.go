package book_test

import (
	"fmt"
	"math/rand"
	"slices"
	"sync"
	"testing"

	"forecourt/api"
	"forecourt/book"
)

// everything calls all functions, and puts all results together.
func everything(c []api.Class, s []api.Stock, l, waiting []api.Booking) string {
	var all []any
	put := func(results ...any) { all = append(all, results...) }
	put(book.Check(c, l), book.CheckStock(c, s), book.CheckTiers(tiers()))
	most, at, e := book.Busy(c, l, "mini")
	put(most, at, e)
	free, e := book.Free(c, s, l, "mini", api.Window{From: 12, To: 18})
	put(free, e)
	g, e := book.Assign(c, s, l)
	put(g, e, book.CheckGiven(c, s, l, g))
	n, e := book.Upgrades(c, s, l, g)
	put(n, e)
	g, left, e := book.Greedy(c, s, slices.Concat(l, waiting))
	put(g, left, e)
	can, e := book.Can(c, s, l, waiting[0])
	put(can, e)
	from, e := book.Earliest(c, s, l, waiting[0])
	put(from, e)
	added, e := book.Promote(c, s, l, waiting)
	put(added, e)
	spread, e := book.Spread(l)
	put(spread, e)
	over, e := book.Over(l, 2)
	put(over, e)
	taken, e := book.Most(l, 2, api.Fraction{Num: 1, Den: 5})
	put(taken, e)
	fee, e := book.CancelFee(tiers(), l[0], 1000, 5)
	put(fee, e)
	text, e := book.Text(l)
	put(text, e)
	read, line, e := book.Read(text)
	put(read, line, e)
	return fmt.Sprint(all...)
}

// waiting are right behind bookings, and not in order of Made.
func waiting() []api.Booking {
	return []api.Booking{made(booking("w", "mini", 18, 25), 9), made(booking("x", "maxi", 17, 60), 3), made(booking("y", "mini", 70, 80), 3), made(booking("z", "midi", 60, 70), 1)}
}

// Z2, Z7: arguments stay as they are, what is behind their ends is not looked at, and the results are the same each time.
func TestArgumentsStay(t *testing.T) {
	first := everything(classes(), stock(), bookings(), waiting())
	x := booking("behind", "bus", 9, 1)
	c := append(classes(), api.Class{Key: "behind"})
	s := append(stock(), api.Stock{Class: "behind"})
	l, w := append(bookings(), x), append(waiting(), x)
	for range 20 {
		is(t, "again", everything(c[:len(c)-1], s[:len(s)-1], l[:len(l)-1], w[:len(w)-1]), first)
	}
	same(t, "classes", c, append(classes(), api.Class{Key: "behind"}))
	same(t, "stock", s, append(stock(), api.Stock{Class: "behind"}))
	same(t, "bookings", l, append(bookings(), x))
	same(t, "those who wait", w, append(waiting(), x))
	g := append(given(bookings(), "mini/1", "mini/2", "midi/1", "maxi/1"), api.Given{Booking: "behind"})
	is(t, "given", book.CheckGiven(c[:len(c)-1], s[:len(s)-1], l[:len(l)-1], g[:len(g)-1]), api.OK)
	is(t, "behind the given ones", g[len(g)-1], api.Given{Booking: "behind"})
}

// Z1: functions without objects can be called by any number of goroutines at once.
func TestManyAtOnce(t *testing.T) {
	c, s, l, w := classes(), stock(), bookings(), waiting()
	want := everything(c, s, l, w)
	got := make([]string, 8)
	var group sync.WaitGroup
	for i := range got {
		group.Go(func() { got[i] = everything(c, s, l, w) })
	}
	group.Wait()
	for _, text := range got {
		is(t, "at once", text, want)
	}
}

// Z1, Z3: nothing panics, and with an error other results are zero values, whatever the numbers are.
func TestAnyNumbers(t *testing.T) {
	r := rand.New(rand.NewSource(11))
	number := func() int {
		return []int{least, -2, -1, 0, 1, 2, 5, 100, 720, api.End - 1, api.End, greatest}[r.Intn(12)]
	}
	window := func() api.Window { return api.Window{From: number(), To: number()} }
	one := func() api.Booking {
		return api.Booking{Key: []string{"", "a", "b"}[r.Intn(3)], Class: []string{"", "mini", "bus"}[r.Intn(3)], Time: window(), Made: number(), Percent: number()}
	}
	zero := func(what string, e api.Errno, none bool) {
		t.Helper()
		is(t, what, e != api.OK && !none, false)
	}
	for range 20_000 {
		l := [][]api.Booking{nil, bookings(), {one()}, {one(), one()}}[r.Intn(4)]
		s := [][]api.Stock{nil, stock(), {{Class: "mini", Many: number()}}}[r.Intn(3)]
		b := one()
		n, at, e := book.Busy(classes(), l, b.Class)
		zero("Busy", e, n == 0 && at == 0)
		n, e = book.Free(classes(), s, l, b.Class, window())
		zero("Free", e, n == 0)
		n, e = book.Upgrades(classes(), s, l, []api.Given{{Booking: "a", Class: b.Class, Unit: number()}})
		zero("Upgrades", e, n == 0)
		g, e := book.Assign(classes(), s, l)
		zero("Assign", e, len(g) == 0)
		g, left, e := book.Greedy(classes(), s, l)
		zero("Greedy", e, len(g)+len(left) == 0)
		can, e := book.Can(classes(), s, l, b)
		zero("Can", e, !can)
		n, e = book.Earliest(classes(), s, l, b)
		zero("Earliest", e, n == 0)
		keys, e := book.Promote(classes(), s, l, []api.Booking{b})
		zero("Promote", e, len(keys) == 0)
		spread, e := book.Spread(l)
		zero("Spread", e, len(spread) == 0)
		f, e := book.Over(l, number())
		zero("Over", e, f == api.Fraction{})
		n, e = book.Most(l, number(), api.Fraction{Num: number(), Den: number()})
		zero("Most", e, n == 0)
		n, e = book.CancelFee([]api.Tier{{Before: number(), Permille: number()}}, b, number(), number())
		zero("CancelFee", e, n == 0)
		text, e := book.Text(l)
		zero("Text", e, text == "")
	}
}
