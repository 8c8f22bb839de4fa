package shift_test

import (
	"cmp"
	"fmt"
	"math/rand"
	"slices"
	"strings"
	"testing"

	"forecourt/api"
)

// is reports values that differ; lists go to same, for which an empty list is a nil one.
func is[T comparable](t *testing.T, what string, got, want T) {
	t.Helper()
	if got != want {
		t.Errorf("%s: got %v, want %v", what, got, want)
	}
}

func same[T comparable](t *testing.T, what string, got, want []T) {
	t.Helper()
	if !slices.Equal(got, want) {
		t.Errorf("%s: got %v, want %v", what, got, want)
	}
}

// A check is one of a list of some type, with what it has to say.
type check[T any] struct {
	what string
	l    []T
	want api.Errno
}

func runChecks[T any](t *testing.T, function func([]T) api.Errno, checks []check[T]) {
	t.Helper()
	for _, c := range checks {
		is(t, c.what, function(c.l), c.want)
	}
}

// many makes a list of so many elements from their numbers.
func many[T any](count int, element func(i int) T) []T {
	var l []T
	for i := range count {
		l = append(l, element(i))
	}
	return l
}

// key makes keys that are in the order of their numbers.
func key(i int) string { return fmt.Sprintf("k%05d", i) }

// The longest key, and one that is too long.
var (
	longKey   = strings.Repeat("k", api.MaxName)
	longerKey = strings.Repeat("k", api.MaxName+1)
)

const least, greatest = -1 << 63, 1<<63 - 1

// values are arguments for all functions.
type values struct {
	needs     []api.Need
	roads     []api.Road
	moves     []api.Move
	prices    []api.Price
	start     string
	order     []int
	intervals []api.Interval
	done      []api.Serviced
	first     api.Serviced
	meter     int
	dues      []api.Due
	today     int
	daily     int
	slots     []api.Slot
	wanted    []api.Wanted
	placed    []api.Placed
	busy      []api.Busy
}

func someValues() values {
	return values{
		needs: needs(), roads: roads(), moves: moves(), prices: prices(), start: "d", order: []int{2, 0, 1},
		intervals: intervals(), done: done(), first: serviced("v1", "new", 10, 100), meter: 6000,
		dues: []api.Due{{Kind: "belt", Day: 200, Km: api.NeverKm}, {Kind: "oil", Day: 190, Km: 500}}, today: 100, daily: 30,
		slots: slots(), wanted: wanted(), placed: placed(), busy: busy(),
	}
}

// A fault makes one of the values wrong.
type fault struct {
	what   string
	change func(v *values)
	want   api.Errno
}

// Faults, each with an error of its own in the functions that have it.
var (
	badNeeds     = fault{"needs", func(v *values) { v.needs[1].Station = "a" }, api.ErrOrder}
	badRoads     = fault{"roads", func(v *values) { v.roads[0].B = "a" }, api.ErrLoop}
	badMoves     = fault{"moves", func(v *values) { v.moves[2].Many = 0 }, api.ErrArg}
	noPlan       = fault{"no plan", func(v *values) { v.moves[1].B = "e" }, api.ErrRule}
	badPrices    = fault{"prices", func(v *values) { v.prices[0].Station = "aa" }, api.ErrForm}
	tooCheap     = fault{"too cheap", func(v *values) { v.prices[1].Cents = -10*api.MaxRate - 1 }, api.ErrArg}
	badStart     = fault{"start", func(v *values) { v.start = "D" }, api.ErrName}
	badOrder     = fault{"order", func(v *values) { v.order = append(v.order, 0) }, api.ErrForm}
	twice        = fault{"twice", func(v *values) { v.order[2] = v.order[0] }, api.ErrTwice}
	lostRoad     = fault{"lost road", func(v *values) { v.roads = slices.Delete(v.roads, 3, 4) }, api.ErrNone}
	badIntervals = fault{"intervals", func(v *values) { v.intervals[1].Km = 0; v.intervals[1].Days = 0 }, api.ErrForm}
	badDone      = fault{"services", func(v *values) { v.done[2].Day = 0 }, api.ErrOrder}
	badFirst     = fault{"first service", func(v *values) { v.first.Kind = "" }, api.ErrName}
	badMeter     = fault{"meter", func(v *values) { v.meter = -1 }, api.ErrArg}
	noDues       = fault{"no dues", func(v *values) { v.dues = nil }, api.ErrNone}
	manyDues     = fault{"too many dues", func(v *values) { v.dues = make([]api.Due, api.MaxServices+1) }, api.ErrLarge}
	badToday     = fault{"today", func(v *values) { v.today = -1 }, api.ErrArg}
	badSlots     = fault{"slots", func(v *values) { v.slots[1].Day = 1 }, api.ErrOrder}
	badWanted    = fault{"wanted", func(v *values) { v.wanted[0].Vehicle = "V" }, api.ErrName}
	badPlaced    = fault{"placed", func(v *values) { v.placed[0].Day = -1 }, api.ErrArg}
	otherPlaced  = fault{"another one", func(v *values) { v.placed[1].Vehicle = "v3" }, api.ErrForm}
	badBusy      = fault{"busy", func(v *values) { v.busy[0].Cents = -1 }, api.ErrArg}
	noRoom       = fault{"no room", func(v *values) { v.slots[0].Many = 0; v.slots[1].Many = 0; v.slots[2].Many = 0 }, api.ErrFull}
)

// inOrder says that a function has the error of the first one of these faults, whichever others there are behind it.
func inOrder(t *testing.T, what string, function func(v values) api.Errno, faults ...fault) {
	t.Helper()
	is(t, what, function(someValues()), api.OK)
	for i, first := range faults {
		for _, second := range faults[i:] {
			v := someValues()
			second.change(&v)
			first.change(&v)
			is(t, what+": "+first.what+", "+second.what, function(v), first.want)
		}
	}
}

func need(station string, many int) api.Need { return api.Need{Station: station, Many: many} }

// needs: moves is the cheapest plan for them, and costs 12.
func needs() []api.Need {
	return []api.Need{need("a", 3), need("b", 1), need("c", -2), need("d", -1), need("e", 0)}
}

func road(a, b string, car, ride int) api.Road { return api.Road{A: a, B: b, Car: car, Ride: ride} }

// roads have none from c to d, and none to e but from a.
func roads() []api.Road {
	return []api.Road{
		road("a", "b", 7, 3), road("a", "c", 5, 2), road("a", "d", 4, 1), road("b", "c", 3, 1), road("b", "d", 6, 6),
		road("c", "a", 9, 2), road("c", "b", 9, 1), road("d", "a", 2, 1), road("d", "b", 8, 7),
	}
}

func move(a, b string, many int) api.Move { return api.Move{A: a, B: b, Many: many} }

func moves() []api.Move { return []api.Move{move("a", "c", 1), move("a", "d", 1), move("b", "c", 1)} }

func price(station string, cents int) api.Price { return api.Price{Station: station, Cents: cents} }

// prices prove moves.
func prices() []api.Price {
	return []api.Price{price("a", 0), price("b", 2), price("c", 5), price("d", 4), price("e", 7)}
}

func interval(kind string, km, days int) api.Interval {
	return api.Interval{Kind: kind, Km: km, Days: days}
}

func intervals() []api.Interval {
	return []api.Interval{interval("belt", 0, 100), interval("oil", 1000, 30), interval("tyres", 5000, 0)}
}

func serviced(vehicle, kind string, day, meter int) api.Serviced {
	return api.Serviced{Vehicle: vehicle, Kind: kind, Day: day, Meter: meter}
}

func done() []api.Serviced {
	return []api.Serviced{serviced("v1", "oil", 50, 5000), serviced("v1", "oil", 60, 5500), serviced("v2", "oil", 61, 5600), serviced("v2", "belt", 62, 9)}
}

func slots() []api.Slot {
	return []api.Slot{{Day: 1, Many: 1}, {Day: 2, Many: 1}, {Day: 4, Many: 2}}
}

func want(vehicle string, from, to int) api.Wanted {
	return api.Wanted{Vehicle: vehicle, From: from, To: to}
}

func wanted() []api.Wanted { return []api.Wanted{want("v1", 1, 5), want("v2", 2, 5)} }

func put(vehicle string, day int) api.Placed { return api.Placed{Vehicle: vehicle, Day: day} }

// placed is what costs the least: v2 loses 20.
func placed() []api.Placed { return []api.Placed{put("v1", 4), put("v2", 2)} }

func use(vehicle string, from, to, cents int) api.Busy {
	return api.Busy{Vehicle: vehicle, From: from, To: to, Cents: cents}
}

func busy() []api.Busy {
	return []api.Busy{use("v1", 0, 3, 50), use("v2", 0, 3, 20), use("v2", 3, 6, 30), use("v3", 0, 9, 70)}
}

func compareMoves(a, b api.Move) int {
	return cmp.Or(cmp.Compare(a.A, b.A), cmp.Compare(a.B, b.B), cmp.Compare(a.Many, b.Many))
}

// someNeeds has up to three stations with too many cars, and up to three with too few.
func someNeeds(r *rand.Rand) []api.Need {
	var l []api.Need
	above, below := 0, 0
	for i := range 1 + r.Intn(6) {
		n := []int{-3, -2, -1, -1, 0, 1, 2, 3, 4}[r.Intn(9)]
		if n > 0 {
			above++
		}
		if n < 0 {
			below++
		}
		if above <= 3 && below <= 3 {
			l = append(l, need(key(i), n))
		}
	}
	return l
}

// someRoads joins so many stations, but not all of them, at costs that are often equal.
func someRoads(r *rand.Rand, stations int) []api.Road {
	var l []api.Road
	gaps, costs := 1+r.Intn(9), []int{1, 2, 4, 9, api.MaxRate + 1}[r.Intn(5)]
	for i := range stations {
		for j := range stations {
			if i != j && r.Intn(10) >= gaps {
				l = append(l, road(key(i), key(j), r.Intn(costs), r.Intn(costs)))
			}
		}
	}
	return l
}

// someMoves has up to so many moves between so many stations.
func someMoves(r *rand.Rand, count, stations int) []api.Move {
	l := many(count, func(int) api.Move { return move(key(r.Intn(stations)), key(r.Intn(stations)), 1+r.Intn(api.MaxCars)) })
	l = slices.DeleteFunc(l, func(m api.Move) bool { return m.A == m.B })
	slices.SortFunc(l, compareMoves)
	return slices.CompactFunc(l, func(a, b api.Move) bool { return a.A == b.A && a.B == b.B })
}
