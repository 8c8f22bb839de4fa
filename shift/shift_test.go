package shift_test

import (
	"math/rand"
	"slices"
	"testing"

	"forecourt/api"
	"forecourt/shift"
)

// P7.1
func TestCheckNeeds(t *testing.T) {
	some := func(count int) []api.Need {
		return many(count, func(i int) api.Need { return need(key(i), 1) })
	}
	runChecks(t, shift.CheckNeeds, []check[api.Need]{
		{"none", nil, api.OK},
		{"some", needs(), api.OK},
		{"MaxNeeds", some(api.MaxNeeds), api.OK},
		{"more", some(api.MaxNeeds + 1), api.ErrLarge},
		{"large before all", append([]api.Need{need("", least)}, some(api.MaxNeeds)...), api.ErrLarge},
		{"no key", []api.Need{need("", 0)}, api.ErrName},
		{"longest key", []api.Need{need(longKey, 0)}, api.OK},
		{"longer key", []api.Need{need(longerKey, 0)}, api.ErrName},
		{"key before order", []api.Need{need("b", 0), need("A", 0)}, api.ErrName},
		{"same station", []api.Need{need("b", 1), need("b", 2)}, api.ErrOrder},
		{"lesser station", []api.Need{need("b", 1), need("a", 2)}, api.ErrOrder},
		{"order before number", []api.Need{need("b", 1), need("a", 21)}, api.ErrOrder},
		{"MaxCars too many", []api.Need{need("a", api.MaxCars)}, api.OK},
		{"more", []api.Need{need("a", api.MaxCars+1)}, api.ErrArg},
		{"MaxCars too few", []api.Need{need("a", -api.MaxCars)}, api.OK},
		{"less", []api.Need{need("a", -api.MaxCars-1)}, api.ErrArg},
		{"least", []api.Need{need("a", least)}, api.ErrArg},
		{"greatest", []api.Need{need("a", greatest)}, api.ErrArg},
		{"number before the next one", []api.Need{need("a", 21), need("", 0)}, api.ErrArg},
		{"name before the next one", []api.Need{need("", 0), need("b", 21)}, api.ErrName},
	})
}

// manyWays hands so many ways to a function, in their order.
func manyWays[T any](count int, element func(a, b string) T) []T {
	return many(count, func(i int) T { return element(key(i/100), key(1000+i%100)) })
}

// P7.1
func TestCheckRoads(t *testing.T) {
	some := func(count int) []api.Road {
		return manyWays(count, func(a, b string) api.Road { return road(a, b, 1, 1) })
	}
	one := func(a, b string, car, ride int) []api.Road { return []api.Road{road(a, b, car, ride)} }
	after := func(a, b string, car, ride int) []api.Road {
		return []api.Road{road("b", "d", 0, 0), road(a, b, car, ride)}
	}
	runChecks(t, shift.CheckRoads, []check[api.Road]{
		{"none", nil, api.OK},
		{"some", roads(), api.OK},
		{"MaxRoads", some(api.MaxRoads), api.OK},
		{"more", some(api.MaxRoads + 1), api.ErrLarge},
		{"large before all", append(one("", "", least, least), some(api.MaxRoads)...), api.ErrLarge},
		{"no A", one("", "b", 0, 0), api.ErrName},
		{"no B", one("a", "", 0, 0), api.ErrName},
		{"longest A", one(longKey, "b", 0, 0), api.OK},
		{"longest B", one("a", longKey, 0, 0), api.OK},
		{"longer A", one(longerKey, "b", 0, 0), api.ErrName},
		{"longer B", one("a", longerKey, 0, 0), api.ErrName},
		{"name before loop", one("A", "A", 0, 0), api.ErrName},
		{"name before order", after("a", "D", 0, 0), api.ErrName},
		{"loop", one("a", "a", 0, 0), api.ErrLoop},
		{"loop before order", after("a", "a", 0, 0), api.ErrLoop},
		{"the same", after("b", "d", 0, 0), api.ErrOrder},
		{"other costs", after("b", "d", 1, 1), api.ErrOrder},
		{"lesser A", after("a", "e", 1, 1), api.ErrOrder},
		{"lesser B", after("b", "c", 1, 1), api.ErrOrder},
		{"greater B", after("b", "e", 0, 0), api.OK},
		{"greater A", after("c", "a", 0, 0), api.OK},
		{"the way back", after("d", "b", 0, 0), api.OK},
		{"order before costs", after("a", "e", -1, -1), api.ErrOrder},
		{"Car below 0", one("a", "b", -1, 0), api.ErrArg},
		{"Ride below 0", one("a", "b", 0, -1), api.ErrArg},
		{"MaxRate", one("a", "b", api.MaxRate, api.MaxRate), api.OK},
		{"more for Car", one("a", "b", api.MaxRate+1, 0), api.ErrArg},
		{"more for Ride", one("a", "b", 0, api.MaxRate+1), api.ErrArg},
		{"least Car", one("a", "b", least, 0), api.ErrArg},
		{"greatest Ride", one("a", "b", 0, greatest), api.ErrArg},
		{"costs before the next one", append(one("a", "b", -1, 0), road("", "", 0, 0)), api.ErrArg},
		{"name before the next one", append(one("A", "b", 0, 0), road("a", "a", 0, 0)), api.ErrName},
	})
}

// P7.1: what makes moves well formed.
var wellFormed = []check[api.Move]{
	{"MaxRoads", manyMoves(api.MaxRoads), api.OK},
	{"more", manyMoves(api.MaxRoads + 1), api.ErrLarge},
	{"large before all", append([]api.Move{move("", "", least)}, manyMoves(api.MaxRoads)...), api.ErrLarge},
	{"no A", []api.Move{move("", "b", 1)}, api.ErrName},
	{"no B", []api.Move{move("a", "", 1)}, api.ErrName},
	{"longest keys", []api.Move{move(longKey, "k", 1)}, api.OK},
	{"longer A", []api.Move{move(longerKey, "b", 1)}, api.ErrName},
	{"longer B", []api.Move{move("a", longerKey, 1)}, api.ErrName},
	{"name before loop", []api.Move{move("A", "A", 1)}, api.ErrName},
	{"name before order", []api.Move{move("b", "d", 1), move("a", "D", 1)}, api.ErrName},
	{"loop", []api.Move{move("a", "a", 1)}, api.ErrLoop},
	{"loop before order", []api.Move{move("b", "d", 1), move("a", "a", 1)}, api.ErrLoop},
	{"the same", []api.Move{move("b", "d", 1), move("b", "d", 1)}, api.ErrOrder},
	{"other number", []api.Move{move("b", "d", 1), move("b", "d", 2)}, api.ErrOrder},
	{"lesser A", []api.Move{move("b", "d", 1), move("a", "e", 1)}, api.ErrOrder},
	{"lesser B", []api.Move{move("b", "d", 1), move("b", "c", 1)}, api.ErrOrder},
	{"order before number", []api.Move{move("b", "d", 1), move("a", "e", 0)}, api.ErrOrder},
	{"greater B", []api.Move{move("b", "d", 2), move("b", "e", 1)}, api.OK},
	{"greater A", []api.Move{move("b", "d", 2), move("c", "a", 1)}, api.OK},
	{"no car", []api.Move{move("a", "b", 0)}, api.ErrArg},
	{"less", []api.Move{move("a", "b", -1)}, api.ErrArg},
	{"MaxCars", []api.Move{move("a", "b", api.MaxCars)}, api.OK},
	{"more cars", []api.Move{move("a", "b", api.MaxCars+1)}, api.ErrArg},
	{"least", []api.Move{move("a", "b", least)}, api.ErrArg},
	{"greatest", []api.Move{move("a", "b", greatest)}, api.ErrArg},
	{"number before the next one", []api.Move{move("a", "b", 0), move("", "", 0)}, api.ErrArg},
	{"order before the next one", []api.Move{move("b", "a", 1), move("a", "b", 1), move("", "", 0)}, api.ErrOrder},
}

func manyMoves(count int) []api.Move {
	return manyWays(count, func(a, b string) api.Move { return move(a, b, 1) })
}

// wrongForms are those of wellFormed that have an error.
func wrongForms() []check[api.Move] {
	return slices.DeleteFunc(slices.Clone(wellFormed), func(c check[api.Move]) bool { return c.want == api.OK })
}

// P7.1
func TestCheck(t *testing.T) {
	ofNeeds := func(l []api.Move) api.Errno { return shift.Check(needs(), roads(), l) }
	runChecks(t, ofNeeds, wrongForms())
	runChecks(t, ofNeeds, []check[api.Move]{
		{"cheapest", moves(), api.OK},
		{"another one", []api.Move{move("a", "c", 2), move("b", "d", 1)}, api.OK},
		{"all from one station", []api.Move{move("a", "c", 2), move("a", "d", 1)}, api.OK},
		{"none", nil, api.ErrSum},
		{"from a station with too few", []api.Move{move("a", "c", 2), move("c", "d", 1)}, api.ErrRule},
		{"to a station with too many", []api.Move{move("a", "b", 1), move("a", "c", 2)}, api.ErrRule},
		{"to a station that needs none", []api.Move{move("a", "e", 1)}, api.ErrRule},
		{"from a station that needs none", []api.Move{move("e", "c", 1)}, api.ErrRule},
		{"from a station without need", []api.Move{move("f", "c", 1)}, api.ErrRule},
		{"to a station without need", []api.Move{move("a", "f", 1)}, api.ErrRule},
		{"form before rule", []api.Move{move("f", "c", 1), move("f", "c", 1)}, api.ErrOrder},
		{"rule before sum", []api.Move{move("a", "c", 20), move("a", "e", 1)}, api.ErrRule},
		{"one too few", []api.Move{move("a", "c", 2)}, api.ErrSum},
		{"one too few of two", []api.Move{move("a", "c", 1), move("a", "d", 1)}, api.ErrSum},
		{"one too many", []api.Move{move("a", "c", 2), move("b", "c", 1), move("b", "d", 1)}, api.ErrSum},
		{"more than there are", []api.Move{move("a", "c", 1), move("b", "c", 1), move("b", "d", 1)}, api.ErrSum},
		{"more than there are, to one station", []api.Move{move("a", "d", 1), move("b", "c", 2)}, api.ErrSum},
	})
	fewer := func(l []api.Move) api.Errno { return shift.Check(needs(), slices.Delete(roads(), 1, 2), l) }
	runChecks(t, fewer, []check[api.Move]{
		{"no road", moves(), api.ErrNone},
		{"not used", []api.Move{move("a", "d", 1), move("b", "c", 1)}, api.ErrSum},
		{"road before sum", []api.Move{move("a", "c", 20)}, api.ErrNone},
		{"road before the next rule", []api.Move{move("a", "c", 1), move("a", "e", 1)}, api.ErrNone},
		{"rule before the next road", []api.Move{move("a", "b", 1), move("a", "c", 1)}, api.ErrRule},
		{"rule before its road", []api.Move{move("a", "e", 1)}, api.ErrRule},
	})
	back := []api.Road{road("b", "a", 1, 1)}
	is(t, "only the way back", shift.Check([]api.Need{need("a", 1), need("b", -1)}, back, []api.Move{move("a", "b", 1)}), api.ErrNone)
	is(t, "nothing", shift.Check(nil, nil, nil), api.OK)
	is(t, "nothing to do", shift.Check([]api.Need{need("a", 1), need("b", 0)}, nil, nil), api.OK)
	is(t, "moves without needs", shift.Check(nil, roads(), moves()), api.ErrRule)
	inOrder(t, "Check", func(v values) api.Errno { return shift.Check(v.needs, v.roads, v.moves) }, badNeeds, badRoads, badMoves, noPlan)
	inOrder(t, "Check", func(v values) api.Errno { return shift.Check(v.needs, v.roads, v.moves) }, badNeeds, badRoads, badMoves, lostRoad)
}

// P7.1
func TestCost(t *testing.T) {
	cost := func(what string, l []api.Move, want int, e api.Errno) {
		t.Helper()
		cents, err := shift.Cost(needs(), roads(), l)
		is(t, what, cents, want)
		is(t, what, err, e)
	}
	cost("cheapest", moves(), 12, api.OK)
	cost("another one", []api.Move{move("a", "c", 2), move("b", "d", 1)}, 16, api.OK)
	cost("no plan", moves()[:2], 0, api.ErrSum)
	cents, e := shift.Cost(nil, nil, nil)
	is(t, "nothing", cents, 0)
	is(t, "nothing", e, api.OK)
	var dear []api.Road
	var all []api.Move
	var most []api.Need
	for i := range api.MaxNeeds {
		most = append(most, need(key(i), api.MaxCars*(1-i%2*2)))
		if i%2 == 0 {
			dear = append(dear, road(key(i), key(i+1), api.MaxRate, 0))
			all = append(all, move(key(i), key(i+1), api.MaxCars))
		}
	}
	cents, e = shift.Cost(most, dear, all)
	is(t, "most", cents, 5*api.MaxCars*api.MaxRate)
	is(t, "most", e, api.OK)
	inOrder(t, "Cost", func(v values) api.Errno { _, e := shift.Cost(v.needs, v.roads, v.moves); return e }, badNeeds, badRoads, badMoves, noPlan)
}

// isPlan counts the cars of all stations.
func isPlan(needs []api.Need, l []api.Move) bool {
	for _, n := range needs {
		out, in := 0, 0
		for _, m := range l {
			if m.A == n.Station {
				out += m.Many
			}
			if m.B == n.Station {
				in += m.Many
			}
		}
		if out > max(0, n.Many) || in != max(0, -n.Many) {
			return false
		}
	}
	return true
}

// plansOf has all plans, and says how many lists of moves on roads between stations with needs it has tried.
func plansOf(needs []api.Need, roads []api.Road) ([][]api.Move, int) {
	tried := 0
	var plans [][]api.Move
	of := map[string]int{}
	for _, n := range needs {
		of[n.Station] = n.Many
	}
	var extend func(l []api.Move, roads []api.Road)
	extend = func(l []api.Move, roads []api.Road) {
		if len(roads) == 0 {
			tried++
			if isPlan(needs, l) {
				plans = append(plans, slices.Clone(l))
			}
			return
		}
		extend(l, roads[1:])
		first := roads[0]
		for n := 1; n <= min(of[first.A], -of[first.B]); n++ {
			extend(append(l, move(first.A, first.B, n)), roads[1:])
		}
	}
	extend(nil, roads)
	return plans, tried
}

func costOf(roads []api.Road, l []api.Move) int {
	cents := 0
	for _, m := range l {
		for _, r := range roads {
			if r.A == m.A && r.B == m.B {
				cents += r.Car * m.Many
			}
		}
	}
	return cents
}

// P7.1: Check and Cost, against counts, with plans and what is nearly one.
func TestCheckAtRandom(t *testing.T) {
	r := rand.New(rand.NewSource(71))
	count := map[api.Errno]int{}
	for range 20_000 {
		needs, roads := someNeeds(r), someRoads(r, 6)
		var l []api.Move
		if plans, _ := plansOf(needs, roads); len(plans) > 0 {
			l = plans[r.Intn(len(plans))]
		}
		for range r.Intn(3) {
			l = append(l, someMoves(r, 1, 6)...)
			if len(l) > 0 && r.Intn(3) == 0 {
				l[r.Intn(len(l))].Many = 1 + r.Intn(3)
			}
		}
		slices.SortFunc(l, compareMoves)
		l = slices.CompactFunc(l, func(a, b api.Move) bool { return a.A == b.A && a.B == b.B })
		want := errorOf(needs, roads, l)
		is(t, "Check", shift.Check(needs, roads, l), want)
		cents, e := shift.Cost(needs, roads, l)
		is(t, "Cost", e, want)
		if want == api.OK {
			is(t, "Cost", cents, costOf(roads, l))
		}
		count[want] += len(l)
	}
	for _, e := range []api.Errno{api.OK, api.ErrRule, api.ErrNone, api.ErrSum} {
		if count[e] < 400 {
			t.Errorf("only %d moves have error %d", count[e], e)
		}
	}
}

// errorOf is the error of well formed moves that are no plan.
func errorOf(needs []api.Need, roads []api.Road, l []api.Move) api.Errno {
	of := map[string]int{}
	for _, n := range needs {
		of[n.Station] = n.Many
	}
	for _, m := range l {
		if of[m.A] <= 0 || of[m.B] >= 0 {
			return api.ErrRule
		}
		if !slices.ContainsFunc(roads, func(r api.Road) bool { return r.A == m.A && r.B == m.B }) {
			return api.ErrNone
		}
	}
	if !isPlan(needs, l) {
		return api.ErrSum
	}
	return api.OK
}
