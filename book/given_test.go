package book_test

import (
	"cmp"
	"fmt"
	"math/rand"
	"slices"
	"testing"

	"forecourt/api"
	"forecourt/book"
	"forecourt/lot"
)

// P3.2
func TestCheckGiven(t *testing.T) {
	l := bookings()
	right := given(l, "mini/1", "mini/2", "midi/1", "maxi/1")
	changed := func(i int, x api.Given) []api.Given {
		g := slices.Clone(right)
		g[i] = x
		return g
	}
	cases := []struct {
		what string
		g    []api.Given
		want api.Errno
	}{
		{"right", right, api.OK},
		{"one again, behind the one before", given(l, "mini/1", "mini/2", "maxi/1", "maxi/1"), api.ErrConflict},
		{"on at one moment", given(l, "mini/1", "mini/1", "midi/1", "maxi/1"), api.ErrConflict},
		{"one is over as the other begins", given(l, "midi/1", "mini/1", "midi/1", "maxi/1"), api.OK},
		{"none", nil, api.ErrForm},
		{"one too few", right[:3], api.ErrForm},
		{"one too many", append(slices.Clone(right), api.Given{}), api.ErrForm},
		{"another booking", changed(1, api.Given{Booking: "x", Class: "mini", Unit: 2}), api.ErrForm},
		{"twice the same booking", changed(1, api.Given{Booking: "a", Class: "mini", Unit: 2}), api.ErrForm},
		{"not in order", []api.Given{right[1], right[0], right[2], right[3]}, api.ErrForm},
		{"form before class", changed(3, api.Given{Booking: "x", Class: "bus"}), api.ErrForm},
		{"form of the last one before the class of the first one", []api.Given{{Booking: "a", Class: "bus"}, right[1], right[2], {}}, api.ErrForm},
		{"no such class", changed(1, api.Given{Booking: "b", Class: "bus", Unit: 1}), api.ErrNone},
		{"empty class", changed(1, api.Given{Booking: "b", Unit: 1}), api.ErrNone},
		{"none before rule and unit", changed(1, api.Given{Booking: "b", Class: "bus"}), api.ErrNone},
		{"a class below", changed(2, api.Given{Booking: "c", Class: "mini", Unit: 1}), api.ErrRule},
		{"a class beside", changed(3, api.Given{Booking: "d", Class: "midi", Unit: 1}), api.ErrRule},
		{"a class alone", changed(3, api.Given{Booking: "d", Class: "boat", Unit: 1}), api.ErrRule},
		{"rule before unit", changed(3, api.Given{Booking: "d", Class: "boat"}), api.ErrRule},
		{"unit 0", changed(0, api.Given{Booking: "a", Class: "mini"}), api.ErrArg},
		{"unit above", changed(0, api.Given{Booking: "a", Class: "mini", Unit: 3}), api.ErrArg},
		{"greatest unit", changed(0, api.Given{Booking: "a", Class: "mini", Unit: greatest}), api.ErrArg},
		{"least unit", changed(0, api.Given{Booking: "a", Class: "mini", Unit: least}), api.ErrArg},
		{"a stock of none", changed(3, api.Given{Booking: "d", Class: "van", Unit: 1}), api.ErrArg},
		{"unit before the next class", append(given(l, "mini/9"), api.Given{Booking: "b", Class: "bus"}, right[2], right[3]), api.ErrArg},
		{"unit before conflict", given(l, "mini/1", "mini/1", "midi/1", "maxi/2"), api.ErrArg},
	}
	for _, c := range cases {
		is(t, c.what, book.CheckGiven(classes(), stock(), l, c.g), c.want)
		n, e := book.Upgrades(classes(), stock(), l, c.g)
		is(t, c.what+": Upgrades", e, c.want)
		if e != api.OK {
			is(t, c.what+": Upgrades", n, 0)
		}
	}
	is(t, "nothing", book.CheckGiven(nil, nil, nil, nil), api.OK)
	is(t, "one for nothing", book.CheckGiven(nil, nil, nil, []api.Given{{}}), api.ErrForm)
	boat := named(1, "boat", 1, 2)
	is(t, "a class without a stock", book.CheckGiven(classes(), stock(), boat, given(boat, "boat/1")), api.ErrArg)
	wrong := []api.Given{{}}
	checksFirst(t, "CheckGiven", func(c []api.Class, s []api.Stock, l []api.Booking) api.Errno {
		return book.CheckGiven(c, s, l, wrong)
	})
	checksFirst(t, "Upgrades", func(c []api.Class, s []api.Stock, l []api.Booking) api.Errno {
		n, e := book.Upgrades(c, s, l, wrong)
		is(t, "with an error", n, 0)
		return e
	})
}

// P3.2: as many vehicles as there can be.
func TestCheckGivenMost(t *testing.T) {
	c := []api.Class{{Key: "a", Up: "b"}, {Key: "b", Up: "c"}, {Key: "c", Up: "d"}, {Key: "d", Up: "e"}, {Key: "e"}}
	s := many(5, func(i int) api.Stock { return api.Stock{Class: c[i].Key, Many: api.MaxStock} })
	l := named(api.MaxBookings, "a", 5, 6)
	g := many(api.MaxBookings, func(i int) api.Given {
		return api.Given{Booking: key(i), Class: c[i/api.MaxStock].Key, Unit: i%api.MaxStock + 1}
	})
	is(t, "all", book.CheckGiven(c, s, l, g), api.OK)
	n, e := book.Upgrades(c, s, l, g)
	is(t, "steps", n, 100*(0+1+2+3+4))
	is(t, "steps", e, api.OK)
	got, left, e := book.Greedy(c, s, l)
	same(t, "Greedy", got, g)
	same(t, "Greedy", left, nil)
	is(t, "Greedy", e, api.OK)
	g[499].Unit = 99
	is(t, "the last two", book.CheckGiven(c, s, l, g), api.ErrConflict)
}

// P3.2
func TestUpgrades(t *testing.T) {
	l := bookings()
	cases := []struct {
		words []string
		want  int
	}{
		{[]string{"mini/1", "mini/2", "midi/1", "maxi/1"}, 1},
		{[]string{"midi/1", "mini/1", "midi/1", "maxi/1"}, 2},
	}
	for _, c := range cases {
		n, e := book.Upgrades(classes(), stock(), l, given(l, c.words...))
		is(t, fmt.Sprint(c.words), n, c.want)
		is(t, fmt.Sprint(c.words), e, api.OK)
	}
	one := named(1, "mini", 1, 2)
	for word, want := range map[string]int{"mini/2": 0, "midi/1": 1, "maxi/1": 2} {
		n, e := book.Upgrades(classes(), stock(), one, given(one, word))
		is(t, word, n, want)
		is(t, word, e, api.OK)
	}
	n, e := book.Upgrades(classes(), stock(), nil, nil)
	is(t, "none", n, 0)
	is(t, "none", e, api.OK)
}

// P3.2
func TestGreedy(t *testing.T) {
	cases := []struct {
		what  string
		l     []api.Booking
		words []string // as in given; empty: none
		left  []string
	}{
		{"none", nil, nil, nil},
		{"ordinary", bookings(), []string{"mini/1", "mini/2", "midi/1", "maxi/1"}, nil},
		{"up and up", named(4, "mini", 1, 2), []string{"mini/1", "mini/2", "midi/1", "maxi/1"}, nil},
		{"too many", named(6, "mini", 1, 2), []string{"mini/1", "mini/2", "midi/1", "maxi/1", "", ""}, []string{"k00004", "k00005"}},
		{"no vehicles", named(2, "boat", 1, 2), []string{"", ""}, []string{"k00000", "k00001"}},
		{"a stock of none", named(2, "van", 1, 2), []string{"maxi/1", ""}, []string{"k00001"}},
		{"those that begin first", []api.Booking{booking("a", "midi", 12, 20), booking("b", "midi", 11, 20), booking("c", "midi", 10, 20)}, []string{"", "maxi/1", "midi/1"}, []string{"a"}},
		{"of equal ones by key", []api.Booking{booking("a", "maxi", 10, 12), booking("b", "maxi", 10, 30), booking("c", "maxi", 12, 13)}, []string{"maxi/1", "", "maxi/1"}, []string{"b"}},
		{"free again as one is over", []api.Booking{booking("a", "maxi", 10, 20), booking("b", "maxi", 20, 30)}, []string{"maxi/1", "maxi/1"}, nil},
		{"not free yet", []api.Booking{booking("a", "maxi", 10, 21), booking("b", "maxi", 20, 30)}, []string{"maxi/1", ""}, []string{"b"}},
		{"the least unit that is free", []api.Booking{booking("a", "mini", 10, 20), booking("b", "mini", 11, 30), booking("c", "mini", 20, 30)}, []string{"mini/1", "mini/2", "mini/1"}, nil},
		{"fewer steps before a lesser unit", []api.Booking{booking("a", "mini", 10, 20), booking("b", "mini", 11, 30)}, []string{"mini/1", "mini/2"}, nil},
		{"it does not look ahead", []api.Booking{booking("a", "mini", 1, 9), booking("b", "mini", 1, 9), booking("c", "mini", 1, 9), booking("d", "midi", 2, 9), booking("e", "maxi", 3, 9)}, []string{"mini/1", "mini/2", "midi/1", "maxi/1", ""}, []string{"e"}},
		{"the keys that are left are in order", []api.Booking{booking("a", "maxi", 9, 20), booking("b", "maxi", 8, 20), booking("c", "maxi", 1, 20)}, []string{"", "", "maxi/1"}, []string{"a", "b"}},
	}
	for _, c := range cases {
		var want []api.Given
		for i, w := range c.words {
			if w != "" {
				want = append(want, given(c.l[i:], w)...)
			}
		}
		g, left, e := book.Greedy(classes(), stock(), c.l)
		same(t, c.what, g, want)
		same(t, c.what, left, c.left)
		is(t, c.what, e, api.OK)
	}
	mixed := many(api.MaxBookings, func(i int) api.Booking { return booking(key(i), "maxi", 4-i%5, 6) })
	g, left, e := book.Greedy(classes(), stock(), mixed)
	same(t, "the first of equal ones, between others", g, given(mixed[4:], "maxi/1"))
	same(t, "the first of equal ones, between others", left, keysOf(slices.Delete(mixed, 4, 5)))
	is(t, "the first of equal ones, between others", e, api.OK)
	checksFirst(t, "Greedy", func(c []api.Class, s []api.Stock, l []api.Booking) api.Errno {
		g, left, e := book.Greedy(c, s, l)
		same(t, "with an error", g, nil)
		same(t, "with an error", left, nil)
		return e
	})
}

// vehicles are all that a booking of a class may get, in their order, with the steps to them.
func vehicles(c []api.Class, s []api.Stock, class string) ([]api.Given, []int) {
	type one struct {
		g     api.Given
		steps int
	}
	var all []one
	for _, x := range s {
		steps, ok, _ := lot.Steps(c, class, x.Class)
		for unit := 1; unit <= x.Many && ok; unit++ {
			all = append(all, one{api.Given{Class: x.Class, Unit: unit}, steps})
		}
	}
	slices.SortStableFunc(all, func(a, b one) int { return cmp.Compare(a.steps, b.steps) })
	var g []api.Given
	var steps []int
	for _, x := range all {
		g, steps = append(g, x.g), append(steps, x.steps)
	}
	return g, steps
}

// together says whether two bookings are on at one moment.
func together(a, b api.Booking) bool {
	for at := a.Time.From; at < a.Time.To; at++ {
		if b.Time.From <= at && at < b.Time.To {
			return true
		}
	}
	return false
}

// P3.2: the way it is told, step by step; and no worse than Assign, where it gives all a vehicle.
func TestGreedyAtRandom(t *testing.T) {
	r := rand.New(rand.NewSource(2))
	for range 3000 {
		c, s := someClasses(r)
		l := someBookings(r, c, r.Intn(9), 12)
		mustCheck(t, c, s, l)
		got, left, e := book.Greedy(c, s, l)
		what := fmt.Sprint(c, s, l)
		is(t, what, e, api.OK)
		mine := map[string]api.Given{}
		for from := range 12 { // the keys are in order
			for _, b := range l {
				if b.Time.From != from {
					continue
				}
				all, _ := vehicles(c, s, b.Class)
				for _, v := range all {
					free := !slices.ContainsFunc(l, func(x api.Booking) bool {
						had, has := mine[x.Key]
						return has && had.Class == v.Class && had.Unit == v.Unit && together(b, x)
					})
					if free {
						v.Booking = b.Key
						mine[b.Key] = v
						break
					}
				}
			}
		}
		var want []api.Given
		var without []string
		for _, b := range l {
			if v, has := mine[b.Key]; has {
				want = append(want, v)
			} else {
				without = append(without, b.Key)
			}
		}
		same(t, what, got, want)
		same(t, what, left, without)
		if len(left) > 0 || len(l) > api.MaxExact {
			continue
		}
		is(t, what, book.CheckGiven(c, s, l, got), api.OK)
		n, _ := book.Upgrades(c, s, l, got)
		g, e := book.Assign(c, s, l)
		fewest, _ := book.Upgrades(c, s, l, g)
		is(t, what+": Assign", e, api.OK)
		is(t, what+": not fewer than Assign", n >= fewest, true)
	}
}

// P3.2: CheckGiven permits just what has none of the errors.
func TestCheckGivenAtRandom(t *testing.T) {
	r := rand.New(rand.NewSource(3))
	for range 5000 {
		c, s := someClasses(r)
		l := someBookings(r, c, 1+r.Intn(4), 12)
		g := many(len(l), func(i int) api.Given {
			return api.Given{Booking: l[i].Key, Class: c[r.Intn(len(c))].Key, Unit: r.Intn(4)}
		})
		want := api.OK
		for i, x := range g {
			all, _ := vehicles(c, s, l[i].Class)
			_, may, _ := lot.Steps(c, l[i].Class, x.Class)
			if want == api.OK && !may {
				want = api.ErrRule
			}
			if want == api.OK && !slices.Contains(all, api.Given{Class: x.Class, Unit: x.Unit}) {
				want = api.ErrArg
			}
		}
		for i, x := range g {
			for j, y := range g[:i] {
				if want == api.OK && x.Class == y.Class && x.Unit == y.Unit && together(l[i], l[j]) {
					want = api.ErrConflict
				}
			}
		}
		is(t, fmt.Sprint(c, s, l, g), book.CheckGiven(c, s, l, g), want)
	}
}
