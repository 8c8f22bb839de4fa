package shift_test

import (
	"cmp"
	"math/rand"
	"slices"
	"testing"

	"forecourt/api"
	"forecourt/shift"
)

// P7.3
func TestRoundCost(t *testing.T) {
	cases := []struct {
		what  string
		start string
		l     []api.Move
		order []int
		want  int
		e     api.Errno
	}{
		{"no moves", "d", nil, nil, 0, api.OK},
		{"no moves, without roads at the start", "x", nil, nil, 0, api.OK},
		{"one, there and back", "d", moves()[:1], []int{0}, 0, api.ErrNone},
		{"one, with both rides", "c", []api.Move{move("a", "d", 1)}, []int{0}, 0, api.ErrNone},
		{"one, with a ride to it", "d", []api.Move{move("a", "d", 1)}, []int{0}, 1 + 4, api.OK},
		{"one, with a ride back", "a", []api.Move{move("a", "d", 1)}, []int{0}, 4 + 1, api.OK},
		{"one, with two rides", "b", []api.Move{move("c", "a", 1)}, []int{0}, 1 + 9 + 3, api.OK},
		{"the number of cars counts for nothing", "b", []api.Move{move("c", "a", 20)}, []int{0}, 1 + 9 + 3, api.OK},
		{"all", "d", moves(), []int{2, 0, 1}, 7 + 3 + 2 + 5 + 2 + 4, api.OK},
		{"in another order", "d", moves(), []int{0, 2, 1}, 1 + 5 + 1 + 3 + 2 + 4, api.OK},
		{"no road back", "d", moves(), []int{1, 2, 0}, 0, api.ErrNone},
		{"no road to the first one", "e", moves(), []int{0, 2, 1}, 0, api.ErrNone},
		{"no road between two", "a", []api.Move{move("a", "c", 1), move("d", "a", 1)}, []int{0, 1}, 0, api.ErrNone},
		{"in the other order there are roads", "a", []api.Move{move("a", "c", 1), move("d", "a", 1)}, []int{1, 0}, 1 + 2 + 5 + 2, api.OK},
		{"no road for a car", "a", []api.Move{move("a", "e", 1)}, []int{0}, 0, api.ErrNone},
		{"from where the one before ends", "a", []api.Move{move("a", "b", 1), move("b", "c", 1), move("c", "a", 1)}, []int{0, 1, 2}, 7 + 3 + 9, api.OK},
		{"one less", "d", moves(), []int{0, 1}, 0, api.ErrForm},
		{"one more", "d", moves(), []int{0, 1, 2, 0}, 0, api.ErrForm},
		{"some for none", "d", nil, []int{0}, 0, api.ErrForm},
		{"length before numbers", "d", moves(), []int{-1, -1}, 0, api.ErrForm},
		{"no such move", "d", moves(), []int{0, 1, 3}, 0, api.ErrNone},
		{"below 0", "d", moves(), []int{0, 1, -1}, 0, api.ErrNone},
		{"least", "d", moves(), []int{0, 1, least}, 0, api.ErrNone},
		{"greatest", "d", moves(), []int{0, 1, greatest}, 0, api.ErrNone},
		{"twice", "d", moves(), []int{0, 1, 0}, 0, api.ErrTwice},
		{"twice before no such move", "d", moves(), []int{1, 1, 3}, 0, api.ErrTwice},
		{"no such move before twice", "d", moves(), []int{3, 1, 1}, 0, api.ErrNone},
		{"twice before a road that is missing", "e", moves(), []int{0, 1, 1}, 0, api.ErrTwice},
	}
	for _, c := range cases {
		cents, e := shift.RoundCost(roads(), c.start, c.l, c.order)
		is(t, c.what, cents, c.want)
		is(t, c.what, e, c.e)
	}
	function := func(v values) api.Errno { _, e := shift.RoundCost(v.roads, v.start, v.moves, v.order); return e }
	inOrder(t, "RoundCost", function, badRoads, badStart, badMoves, badOrder, lostRoad)
	inOrder(t, "RoundCost", function, badRoads, badStart, badMoves, twice, lostRoad)
	runChecks(t, func(l []api.Move) api.Errno { _, e := shift.RoundCost(roads(), "d", l, nil); return e }, wrongForms())
}

// P7.3: what is wrong with the start of a driver.
func TestStarts(t *testing.T) {
	for start, want := range map[string]api.Errno{"d": api.OK, "": api.ErrName, "D": api.ErrName, longerKey: api.ErrName, longKey: api.ErrNone, "e": api.ErrNone} {
		_, e := shift.RoundCost(roads(), start, moves(), []int{0, 2, 1})
		is(t, "RoundCost", e, want)
		_, _, e = shift.Round(roads(), start, moves())
		is(t, "Round", e, want)
		_, _, e = shift.Nearest(roads(), start, moves())
		is(t, "Nearest", e, want)
	}
}

// P7.3
func TestRound(t *testing.T) {
	chain := []api.Move{move("a", "b", 1), move("b", "c", 1), move("c", "a", 1)}
	even := append(evenRoads("a", "bcd", 5), append(evenRoads("b", "acd", 5), append(evenRoads("c", "abd", 5), evenRoads("d", "abc", 5)...)...)...)
	cases := []struct {
		what  string
		roads []api.Road
		start string
		l     []api.Move
		want  []int
		cents int
		e     api.Errno
	}{
		{"no moves", roads(), "x", nil, nil, 0, api.OK},
		{"some", roads(), "d", moves(), []int{0, 2, 1}, 16, api.OK},
		{"one", roads(), "b", []api.Move{move("c", "a", 1)}, []int{0}, 13, api.OK},
		{"a chain", roads(), "a", chain, []int{0, 1, 2}, 19, api.OK},
		{"a chain from its second move on", roads(), "b", chain, []int{1, 2, 0}, 19, api.OK},
		{"both orders cost the same", even, "d", []api.Move{move("a", "b", 1), move("b", "a", 1)}, []int{0, 1}, 1 + 5 + 5 + 1, api.OK},
		{"less than the first order", even, "a", []api.Move{move("a", "b", 1), move("c", "a", 1), move("d", "c", 1)}, []int{0, 2, 1}, 5*3 + 1, api.OK},
		{"no road for a car", roads(), "a", []api.Move{move("a", "b", 1), move("a", "e", 1)}, nil, 0, api.ErrNone},
		{"no way to all of them", roads(), "c", []api.Move{move("a", "d", 1)}, nil, 0, api.ErrNone},
		{"no roads", nil, "a", moves(), nil, 0, api.ErrNone},
	}
	for _, c := range cases {
		order, cents, e := shift.Round(c.roads, c.start, c.l)
		same(t, c.what, order, c.want)
		is(t, c.what, cents, c.cents)
		is(t, c.what, e, c.e)
	}
	function := func(v values) api.Errno { _, _, e := shift.Round(v.roads, v.start, v.moves); return e }
	inOrder(t, "Round", function, badRoads, badStart, badMoves, lostRoad)
	runChecks(t, func(l []api.Move) api.Errno { _, _, e := shift.Round(roads(), "d", l); return e }, wrongForms())
}

// P7.3: a round has at most MaxMoves moves.
func TestMostMoves(t *testing.T) {
	roads := manyWays(api.MaxRoads, func(a, b string) api.Road { return road(a, b, 1, 1) })
	l := manyMoves(api.MaxMoves + 1)
	order, cents, e := shift.Round(roads, key(0), l)
	same(t, "more", order, nil)
	is(t, "more", cents, 0)
	is(t, "more", e, api.ErrLarge)
	_, _, e = shift.Round(roads, key(0), l[1:])
	is(t, "MaxMoves", e, api.ErrNone)
	_, _, e = shift.Round(nil, "D", l)
	is(t, "name before more", e, api.ErrName)
	l[3].Many = 0
	_, _, e = shift.Round(nil, "d", l)
	is(t, "form before more", e, api.ErrArg)
	ring, whole := []api.Road{}, []api.Move{}
	for i := range api.MaxRoads {
		next := (i + 1) % api.MaxRoads
		ring = append(ring, road(key(i), key(next), 2, 1))
		whole = append(whole, move(key(i), key(next), 1))
	}
	numbers := many(api.MaxRoads, func(i int) int { return i })
	order, cents, e = shift.Nearest(ring, key(0), whole)
	same(t, "a ring", order, numbers)
	is(t, "a ring", cents, 2*api.MaxRoads)
	is(t, "a ring", e, api.OK)
	cents, e = shift.RoundCost(ring, key(0), whole, numbers)
	is(t, "a ring", cents, 2*api.MaxRoads)
	is(t, "a ring", e, api.OK)
}

// P7.3
func TestNearest(t *testing.T) {
	cases := []struct {
		what  string
		start string
		l     []api.Move
		want  []int
		cents int
		e     api.Errno
	}{
		{"no moves", "x", nil, nil, 0, api.OK},
		{"some", "d", moves(), []int{0, 2, 1}, 16, api.OK},
		{"here first", "c", []api.Move{move("a", "b", 1), move("b", "c", 1), move("c", "a", 1)}, []int{2, 0, 1}, 9 + 7 + 3, api.OK},
		{"here, of several the first one", "c", []api.Move{move("c", "a", 1), move("c", "b", 1)}, []int{0, 1}, 9 + 2 + 9 + 1, api.OK},
		{"the least ride", "c", []api.Move{move("a", "c", 1), move("b", "c", 1)}, []int{1, 0}, 1 + 3 + 2 + 5, api.OK},
		{"a chain", "b", []api.Move{move("a", "b", 1), move("b", "c", 1), move("c", "a", 1)}, []int{1, 2, 0}, 19, api.OK},
		{"no road to any", "e", moves(), nil, 0, api.ErrNone},
		{"a road for a car is missing", "a", []api.Move{move("a", "e", 1)}, nil, 0, api.ErrNone},
		{"a road back is missing", "d", []api.Move{move("a", "c", 1)}, nil, 0, api.ErrNone},
		{"the nearest one leads astray", "a", []api.Move{move("a", "c", 1), move("d", "a", 1)}, nil, 0, api.ErrNone},
	}
	for _, c := range cases {
		order, cents, e := shift.Nearest(roads(), c.start, c.l)
		same(t, c.what, order, c.want)
		is(t, c.what, cents, c.cents)
		is(t, c.what, e, c.e)
	}
	// Round takes the other way where the nearest move leads astray.
	order, cents, e := shift.Round(roads(), "a", []api.Move{move("a", "c", 1), move("d", "a", 1)})
	same(t, "Round", order, []int{1, 0})
	is(t, "Round", cents, 1+2+5+2)
	is(t, "Round", e, api.OK)
	function := func(v values) api.Errno { _, _, e := shift.Nearest(v.roads, v.start, v.moves); return e }
	inOrder(t, "Nearest", function, badRoads, badStart, badMoves, lostRoad)
	runChecks(t, func(l []api.Move) api.Errno { _, _, e := shift.Nearest(roads(), "d", l); return e }, wrongForms())
}

// P7.3: a ride that costs nothing is as near as none, and the least number is first.
func TestNearestOfEqual(t *testing.T) {
	free := []api.Road{road("a", "b", 9, 0), road("a", "c", 9, 4), road("b", "a", 9, 0), road("b", "c", 9, 4), road("c", "a", 9, 4), road("c", "b", 9, 4)}
	order, cents, e := shift.Nearest(free, "b", []api.Move{move("a", "c", 1), move("b", "c", 1)})
	same(t, "at no cost", order, []int{0, 1})
	is(t, "at no cost", cents, 0+9+4+9+4)
	is(t, "at no cost", e, api.OK)
	order, _, _ = shift.Nearest(free, "c", []api.Move{move("a", "c", 1), move("b", "c", 1)})
	same(t, "at one cost", order, []int{0, 1})
	free[4].Ride = 5
	order, _, _ = shift.Nearest(free, "c", []api.Move{move("a", "c", 1), move("b", "c", 1)})
	same(t, "at less", order, []int{1, 0})
}

// tour is what the driver pays, step by step.
func tour(roads []api.Road, start string, l []api.Move, order []int) (int, bool) {
	at, cents := start, 0
	leave := func(to string, price func(r api.Road) int) bool {
		if at == to {
			return true
		}
		number := slices.IndexFunc(roads, func(r api.Road) bool { return r.A == at && r.B == to })
		if number < 0 {
			return false
		}
		cents += price(roads[number])
		at = to
		return true
	}
	ride := func(r api.Road) int { return r.Ride }
	car := func(r api.Road) int { return r.Car }
	for _, number := range order {
		if !leave(l[number].A, ride) || !leave(l[number].B, car) {
			return 0, false
		}
	}
	home := leave(start, ride)
	return cents, home
}

// ordersOf has all orders of so many moves, as they rise.
func ordersOf(count int) [][]int {
	var all [][]int
	var extend func(order []int)
	extend = func(order []int) {
		if len(order) == count {
			all = append(all, slices.Clone(order))
		}
		for i := range count {
			if !slices.Contains(order, i) {
				extend(append(order, i))
			}
		}
	}
	extend(nil)
	return all
}

// P7.3: no order costs less than Round; all of it against steps that are counted one by one.
func TestRoundsAtRandom(t *testing.T) {
	r := rand.New(rand.NewSource(75))
	made, astray := 0, 0
	for range 4000 {
		roads, l, start := someRoads(r, 4), someMoves(r, r.Intn(7), 4), key(r.Intn(4))
		var best []int
		lowest, found := 0, false
		for _, order := range ordersOf(len(l)) {
			cents, ok := tour(roads, start, l, order)
			if ok && (!found || cents < lowest) {
				best, lowest, found = order, cents, true
			}
			if r.Intn(20) == 0 {
				n, e := shift.RoundCost(roads, start, l, order)
				is(t, "RoundCost", e == api.OK, ok)
				is(t, "RoundCost, without a road", ok || e == api.ErrNone, true)
				is(t, "RoundCost", ok && n != cents, false)
			}
		}
		order, cents, e := shift.Round(roads, start, l)
		same(t, "Round", order, best)
		is(t, "Round", cents, lowest)
		is(t, "Round", e == api.OK, found)
		is(t, "Round, without a road", found || e == api.ErrNone, true)
		near, n, e := shift.Nearest(roads, start, l)
		want, ok := nearestOf(roads, start, l)
		is(t, "Nearest", e == api.OK, ok)
		same(t, "Nearest", near, want)
		if ok {
			paid, _ := tour(roads, start, l, want)
			is(t, "Nearest", n, paid)
			is(t, "Round costs more than Nearest", cents > n, false)
			made += len(l)
		} else {
			is(t, "Nearest, without a road", e, api.ErrNone)
			if found {
				astray++
			}
		}
	}
	if made < 1000 || astray < 30 {
		t.Errorf("only %d moves are made, and only %d times the nearest ones lead astray", made, astray)
	}
}

// nearestOf takes from what is left, again and again, what is first by ride, then by number.
func nearestOf(roads []api.Road, start string, l []api.Move) ([]int, bool) {
	at := start
	ride := func(i int) int {
		if l[i].A == at {
			return 0
		}
		for _, r := range roads {
			if r.A == at && r.B == l[i].A {
				return r.Ride
			}
		}
		return greatest
	}
	left := many(len(l), func(i int) int { return i })
	var order []int
	for len(left) > 0 {
		first := slices.MinFunc(left, func(i, j int) int { return cmp.Or(cmp.Compare(ride(i), ride(j)), i-j) })
		order = append(order, first)
		left = slices.DeleteFunc(left, func(i int) bool { return i == first })
		at = l[first].B
	}
	if _, ok := tour(roads, start, l, order); !ok {
		return nil, false
	}
	return order, true
}
