package shift_test

import (
	"fmt"
	"math/rand"
	"sync"
	"testing"

	"forecourt/api"
	"forecourt/shift"
)

// everything calls all functions, and puts all results together.
func everything(v values) string {
	var all []any
	put := func(results ...any) { all = append(all, results...) }
	put(shift.CheckNeeds(v.needs), shift.CheckRoads(v.roads), shift.Check(v.needs, v.roads, v.moves))
	cents, e := shift.Cost(v.needs, v.roads, v.moves)
	put(cents, e)
	plan, e := shift.Plan(v.needs, v.roads)
	put(plan, e)
	prices, e := shift.Prove(v.needs, v.roads)
	put(prices, e)
	bound, e := shift.Bound(v.needs, v.roads, v.prices)
	put(bound, e)
	ok, e := shift.Proves(v.needs, v.roads, v.moves, v.prices)
	put(ok, e)
	cents, e = shift.RoundCost(v.roads, v.start, v.moves, v.order)
	put(cents, e)
	order, cents, e := shift.Round(v.roads, v.start, v.moves)
	put(order, cents, e)
	order, cents, e = shift.Nearest(v.roads, v.start, v.moves)
	put(order, cents, e)
	put(shift.CheckIntervals(v.intervals), shift.CheckServices(v.done), shift.CheckPlaced(v.slots, v.wanted, v.placed))
	dues, e := shift.Dues(v.intervals, v.done, v.first, v.meter)
	put(dues, e)
	kind, day, e := shift.By(v.dues, v.today, v.daily)
	put(kind, day, e)
	lost, e := shift.Lost(v.busy, v.placed)
	put(lost, e)
	placed, lost, e := shift.Place(v.slots, v.wanted, v.busy)
	put(placed, lost, e)
	text, e := shift.Text(v.moves)
	put(text, e)
	read, line, e := shift.Read(text)
	put(read, line, e)
	return fmt.Sprint(all...)
}

// longer puts an element behind the end of a list, where the list has memory for it.
func longer[T any](l *[]T, last T) {
	whole := append(*l, last)
	*l = whole[:len(*l)]
}

// Z2, Z7: arguments stay as they are, what is behind their ends is not looked at, and the results are the same each time.
func TestArgumentsStay(t *testing.T) {
	first := everything(someValues())
	v := someValues()
	longer(&v.needs, need("z", -9))
	longer(&v.roads, road("z", "z", -1, -1))
	longer(&v.moves, move("z", "z", -1))
	longer(&v.prices, price("z", -1))
	longer(&v.order, -1)
	longer(&v.intervals, interval("z", -1, -1))
	longer(&v.done, serviced("v1", "oil", 70, -1))
	longer(&v.dues, due("z", -1, -1))
	longer(&v.slots, api.Slot{Day: -1, Many: -1})
	longer(&v.wanted, want("z", -1, -1))
	longer(&v.placed, put("z", -1))
	longer(&v.busy, use("v1", 4, 5, -1))
	whole := func() string {
		return fmt.Sprint(v, v.needs[:6], v.roads[:10], v.moves[:4], v.prices[:6], v.order[:4], v.intervals[:4], v.done[:5], v.dues[:3], v.slots[:4], v.wanted[:3], v.placed[:3], v.busy[:5])
	}
	before := whole()
	for range 20 {
		is(t, "again", everything(v), first)
	}
	is(t, "arguments", whole(), before)
}

// Z1: functions without objects can be called by any number of goroutines at once.
func TestManyAtOnce(t *testing.T) {
	v := someValues()
	want := everything(v)
	got := make([]string, 8)
	var group sync.WaitGroup
	for i := range got {
		group.Go(func() { got[i] = everything(v) })
	}
	group.Wait()
	for _, text := range got {
		is(t, "at once", text, want)
	}
}

// wild makes arguments at random, many of which are wrong.
type wild struct{ r *rand.Rand }

func (w wild) number() int {
	return []int{least, -api.MaxCars, -1, 0, 0, 1, 1, 2, 3, 9, api.MaxCars, api.MaxDay, api.MaxRate, api.NeverKm, greatest}[w.r.Intn(15)]
}

func (w wild) few() int { return w.r.Intn(8) - 3 }

func (w wild) word() string { return []string{"", "a", "b", "c", "d", "B"}[w.r.Intn(6)] }

func (w wild) some() bool { return w.r.Intn(2) == 0 }

func (w wild) values() values {
	v, r := someValues(), w.r
	if w.some() {
		v.needs = many(r.Intn(4), func(i int) api.Need { return need([]string{"a", "b", "c", "d"}[i], w.few()) })
	}
	if w.some() {
		v.needs = append(v.needs, need("z", w.number()))
	}
	if w.some() {
		n := r.Intn(len(v.roads))
		v.roads[n] = road(v.roads[n].A, v.roads[n].B, w.number(), w.number())
	}
	if w.some() {
		v.moves = many(r.Intn(3), func(int) api.Move { return move(w.word(), w.word(), w.number()) })
	}
	if w.some() {
		v.prices = many(len(v.needs), func(i int) api.Price { return price(v.needs[i].Station, w.number()) })
	}
	if w.some() {
		v.start = w.word()
	}
	if w.some() {
		v.order = many(len(v.moves), func(int) int { return w.number() })
	}
	if w.some() {
		v.intervals = []api.Interval{interval("oil", w.number(), w.number())}
		v.done = []api.Serviced{serviced("v1", "oil", w.number(), w.number())}
	}
	if w.some() {
		v.first, v.meter = serviced(w.word(), "new", w.number(), w.number()), w.number()
	}
	if w.some() {
		v.dues, v.today, v.daily = []api.Due{due("oil", w.number(), w.number())}, w.number(), w.number()
	}
	if w.some() {
		v.slots = []api.Slot{{Day: w.number(), Many: w.number()}, {Day: w.number(), Many: w.number()}}
	}
	if w.some() {
		v.wanted = []api.Wanted{want(w.word(), w.number(), w.number())}
	}
	if w.some() {
		v.placed = []api.Placed{put(w.word(), w.number())}
	}
	if w.some() {
		v.busy = []api.Busy{use(w.word(), w.number(), w.number(), w.number())}
	}
	return v
}

// Z1, Z3: nothing panics, and with an error other results are zero values, whatever the numbers are.
func TestAnyNumbers(t *testing.T) {
	w := wild{rand.New(rand.NewSource(81))}
	right, wrong := map[string]int{}, map[string]int{}
	zero := func(what string, e api.Errno, none bool) {
		t.Helper()
		is(t, what, e != api.OK && !none, false)
		if e == api.OK {
			right[what]++
		} else {
			wrong[what]++
		}
	}
	for range 10_000 {
		v := w.values()
		zero("Check", shift.Check(v.needs, v.roads, v.moves), true)
		n, e := shift.Cost(v.needs, v.roads, v.moves)
		zero("Cost", e, n == 0)
		plan, e := shift.Plan(v.needs, v.roads)
		zero("Plan", e, len(plan) == 0)
		prices, e := shift.Prove(v.needs, v.roads)
		zero("Prove", e, len(prices) == 0)
		n, e = shift.Bound(v.needs, v.roads, v.prices)
		zero("Bound", e, n == 0)
		ok, e := shift.Proves(v.needs, v.roads, v.moves, v.prices)
		zero("Proves", e, !ok)
		n, e = shift.RoundCost(v.roads, v.start, v.moves, v.order)
		zero("RoundCost", e, n == 0)
		order, n, e := shift.Round(v.roads, v.start, v.moves)
		zero("Round", e, len(order) == 0 && n == 0)
		order, n, e = shift.Nearest(v.roads, v.start, v.moves)
		zero("Nearest", e, len(order) == 0 && n == 0)
		dues, e := shift.Dues(v.intervals, v.done, v.first, v.meter)
		zero("Dues", e, len(dues) == 0)
		kind, n, e := shift.By(v.dues, v.today, v.daily)
		zero("By", e, kind == "" && n == 0)
		zero("CheckPlaced", shift.CheckPlaced(v.slots, v.wanted, v.placed), true)
		n, e = shift.Lost(v.busy, v.placed)
		zero("Lost", e, n == 0)
		placed, n, e := shift.Place(v.slots, v.wanted, v.busy)
		zero("Place", e, len(placed) == 0 && n == 0)
		s, e := shift.Text(v.moves)
		zero("Text", e, s == "")
	}
	for what := range wrong {
		if right[what] < 20 || wrong[what] < 20 {
			t.Errorf("%s: only %d without an error, and %d with one", what, right[what], wrong[what])
		}
	}
}
