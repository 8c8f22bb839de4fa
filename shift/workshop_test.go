package shift_test

import (
	"fmt"
	"math/rand"
	"slices"
	"testing"

	"forecourt/api"
	"forecourt/shift"
)

// P7.5: what makes slots right.
func TestSlots(t *testing.T) {
	some := func(count int) []api.Slot {
		return many(count, func(i int) api.Slot { return api.Slot{Day: i, Many: 1} })
	}
	slot := func(day, many int) api.Slot { return api.Slot{Day: day, Many: many} }
	checks := []check[api.Slot]{
		{"none", nil, api.OK},
		{"some", slots(), api.OK},
		{"MaxSlots", some(api.MaxSlots), api.OK},
		{"more", some(api.MaxSlots + 1), api.ErrLarge},
		{"large before all", append([]api.Slot{slot(-1, -1)}, some(api.MaxSlots)...), api.ErrLarge},
		{"day 0", []api.Slot{slot(0, 1)}, api.OK},
		{"before it", []api.Slot{slot(-1, 1)}, api.ErrArg},
		{"the last day", []api.Slot{slot(api.MaxDay, 1)}, api.OK},
		{"after it", []api.Slot{slot(api.MaxDay+1, 1)}, api.ErrArg},
		{"for no vehicle", []api.Slot{slot(1, 0)}, api.OK},
		{"for less", []api.Slot{slot(1, -1)}, api.ErrArg},
		{"for MaxCars", []api.Slot{slot(1, api.MaxCars)}, api.OK},
		{"for more", []api.Slot{slot(1, api.MaxCars+1)}, api.ErrArg},
		{"least day", []api.Slot{slot(least, 1)}, api.ErrArg},
		{"greatest day", []api.Slot{slot(greatest, 1)}, api.ErrArg},
		{"for least", []api.Slot{slot(1, least)}, api.ErrArg},
		{"for greatest", []api.Slot{slot(1, greatest)}, api.ErrArg},
		{"the same day", []api.Slot{slot(5, 1), slot(5, 2)}, api.ErrOrder},
		{"an earlier day", []api.Slot{slot(5, 1), slot(4, 2)}, api.ErrOrder},
		{"numbers before order", []api.Slot{slot(5, 1), slot(4, -1)}, api.ErrArg},
		{"order before the next one", []api.Slot{slot(5, 1), slot(4, 1), slot(-1, 1)}, api.ErrOrder},
	}
	runChecks(t, func(l []api.Slot) api.Errno { return shift.CheckPlaced(l, nil, nil) }, checks)
	runChecks(t, func(l []api.Slot) api.Errno { _, _, e := shift.Place(l, nil, nil); return e }, checks)
}

// P7.5: what makes wanted ones right.
func TestWanted(t *testing.T) {
	some := func(count int) []api.Wanted {
		return many(count, func(i int) api.Wanted { return want(key(i), 4, 5) })
	}
	checks := []check[api.Wanted]{
		{"some", wanted(), api.OK},
		{"more than MaxService", some(api.MaxService + 1), api.ErrLarge},
		{"large before all", append([]api.Wanted{want("", -1, -1)}, some(api.MaxService)...), api.ErrLarge},
		{"no key", []api.Wanted{want("", 4, 5)}, api.ErrName},
		{"longest key", []api.Wanted{want(longKey, 4, 5)}, api.OK},
		{"longer key", []api.Wanted{want(longerKey, 4, 5)}, api.ErrName},
		{"key before order", []api.Wanted{want("v", 4, 5), want("V", 4, 5)}, api.ErrName},
		{"the same", []api.Wanted{want("v", 4, 5), want("v", 4, 5)}, api.ErrOrder},
		{"lesser", []api.Wanted{want("v", 4, 5), want("u", 4, 5)}, api.ErrOrder},
		{"order before days", []api.Wanted{want("v", 4, 5), want("u", -1, -1)}, api.ErrOrder},
		{"all days", []api.Wanted{want("v", 0, api.MaxDay+1)}, api.OK},
		{"more", []api.Wanted{want("v", 0, api.MaxDay+2)}, api.ErrArg},
		{"From below 0", []api.Wanted{want("v", -1, 5)}, api.ErrArg},
		{"both below 0", []api.Wanted{want("v", -1, -1)}, api.ErrArg},
		{"From after To", []api.Wanted{want("v", 5, 4)}, api.ErrArg},
		{"least From", []api.Wanted{want("v", least, 5)}, api.ErrArg},
		{"greatest To", []api.Wanted{want("v", 0, greatest)}, api.ErrArg},
		{"least To", []api.Wanted{want("v", 0, least)}, api.ErrArg},
		{"both greatest", []api.Wanted{want("v", greatest, greatest)}, api.ErrArg},
		{"days before the next one", []api.Wanted{want("v", 5, 4), want("", 4, 5)}, api.ErrArg},
	}
	// With one slot on day 4 for all of them, right ones can be placed there.
	day := []api.Slot{{Day: 4, Many: api.MaxCars}}
	at4 := func(l []api.Wanted) []api.Placed {
		return many(min(len(l), api.MaxService), func(i int) api.Placed { return put(l[i].Vehicle, 4) })
	}
	place := func(l []api.Wanted) api.Errno { _, _, e := shift.Place(day, l, nil); return e }
	placed := func(l []api.Wanted) api.Errno { return shift.CheckPlaced(day, l, at4(l)) }
	runChecks(t, place, checks)
	runChecks(t, placed, checks)
	for _, function := range []func([]api.Wanted) api.Errno{place, placed} {
		runChecks(t, function, []check[api.Wanted]{{"none", nil, api.OK}, {"MaxService", some(api.MaxService), api.OK}})
	}
	// No day is right, but there is none on which it can be.
	empty := []api.Wanted{want("v", 4, 4)}
	is(t, "no day", place(empty), api.ErrFull)
	is(t, "no day", placed(empty), api.ErrRule)
	last := []api.Wanted{want("v", api.MaxDay+1, api.MaxDay+1)}
	is(t, "no day at the end", place(last), api.ErrFull)
}

// P7.5: what makes placed ones right.
func TestPlaced(t *testing.T) {
	some := func(count int) []api.Placed {
		return many(count, func(i int) api.Placed { return put(key(i), 4) })
	}
	checks := []check[api.Placed]{
		{"more than MaxService", some(api.MaxService + 1), api.ErrLarge},
		{"large before all", append([]api.Placed{put("", -1)}, some(api.MaxService)...), api.ErrLarge},
		{"no key", []api.Placed{put("", 4)}, api.ErrName},
		{"longer key", []api.Placed{put(longerKey, 4)}, api.ErrName},
		{"key before order", []api.Placed{put("v", 4), put("V", 4)}, api.ErrName},
		{"the same", []api.Placed{put("v", 4), put("v", 4)}, api.ErrOrder},
		{"lesser", []api.Placed{put("v", 4), put("u", 4)}, api.ErrOrder},
		{"order before day", []api.Placed{put("v", 4), put("u", -1)}, api.ErrOrder},
		{"day below 0", []api.Placed{put("v", -1)}, api.ErrArg},
		{"after the last day", []api.Placed{put("v", api.MaxDay+1)}, api.ErrArg},
		{"least day", []api.Placed{put("v", least)}, api.ErrArg},
		{"greatest day", []api.Placed{put("v", greatest)}, api.ErrArg},
		{"day before the next one", []api.Placed{put("v", -1), put("", 4)}, api.ErrArg},
	}
	lost := func(l []api.Placed) api.Errno { _, e := shift.Lost(nil, l); return e }
	runChecks(t, lost, checks)
	runChecks(t, func(l []api.Placed) api.Errno { return shift.CheckPlaced(nil, nil, l) }, checks)
	runChecks(t, lost, []check[api.Placed]{
		{"none", nil, api.OK},
		{"MaxService", some(api.MaxService), api.OK},
		{"longest key", []api.Placed{put(longKey, 4)}, api.OK},
		{"day 0", []api.Placed{put("v", 0)}, api.OK},
		{"the last day", []api.Placed{put("v", api.MaxDay)}, api.OK},
		{"earlier", []api.Placed{put("v", 4), put("w", 3)}, api.OK},
	})
}

// P7.5: what makes busy ones right.
func TestBusy(t *testing.T) {
	some := func(count int) []api.Busy {
		return many(count, func(int) api.Busy { return use("v", 0, 1, 1) })
	}
	checks := []check[api.Busy]{
		{"none", nil, api.OK},
		{"some", busy(), api.OK},
		{"MaxBusy", some(api.MaxBusy), api.OK},
		{"more", some(api.MaxBusy + 1), api.ErrLarge},
		{"large before all", append([]api.Busy{{Cents: -1}}, some(api.MaxBusy)...), api.ErrLarge},
		{"no key", []api.Busy{use("", 0, 1, 1)}, api.ErrName},
		{"longest key", []api.Busy{use(longKey, 0, 1, 1)}, api.OK},
		{"longer key", []api.Busy{use(longerKey, 0, 1, 1)}, api.ErrName},
		{"key before numbers", []api.Busy{use("V", 1, 0, -1)}, api.ErrName},
		{"no day", []api.Busy{use("v", 1, 1, 1)}, api.OK},
		{"From after To", []api.Busy{use("v", 2, 1, 1)}, api.ErrArg},
		{"From below 0", []api.Busy{use("v", -1, 1, 1)}, api.ErrArg},
		{"both below 0", []api.Busy{use("v", -1, -1, 1)}, api.ErrArg},
		{"all days", []api.Busy{use("v", 0, api.MaxDay+1, 1)}, api.OK},
		{"more days", []api.Busy{use("v", 0, api.MaxDay+2, 1)}, api.ErrArg},
		{"least From", []api.Busy{use("v", least, 1, 1)}, api.ErrArg},
		{"greatest To", []api.Busy{use("v", 0, greatest, 1)}, api.ErrArg},
		{"least To", []api.Busy{use("v", 0, least, 1)}, api.ErrArg},
		{"cents below 0", []api.Busy{use("v", 0, 1, -1)}, api.ErrArg},
		{"MaxRate", []api.Busy{use("v", 0, 1, api.MaxRate)}, api.OK},
		{"more cents", []api.Busy{use("v", 0, 1, api.MaxRate+1)}, api.ErrArg},
		{"least cents", []api.Busy{use("v", 0, 1, least)}, api.ErrArg},
		{"greatest cents", []api.Busy{use("v", 0, 1, greatest)}, api.ErrArg},
		{"in any order", []api.Busy{use("v", 5, 6, 1), use("v", 5, 6, 1), use("u", 1, 2, 1)}, api.OK},
		{"numbers before the next one", []api.Busy{use("v", 0, 1, -1), use("", 0, 1, 1)}, api.ErrArg},
	}
	runChecks(t, func(l []api.Busy) api.Errno { _, e := shift.Lost(l, nil); return e }, checks)
	runChecks(t, func(l []api.Busy) api.Errno { _, _, e := shift.Place(nil, nil, l); return e }, checks)
}

// P7.5
func TestCheckPlaced(t *testing.T) {
	runChecks(t, func(l []api.Placed) api.Errno { return shift.CheckPlaced(slots(), wanted(), l) }, []check[api.Placed]{
		{"best", placed(), api.OK},
		{"another one", []api.Placed{put("v1", 1), put("v2", 2)}, api.OK},
		{"both on a day with room for two", []api.Placed{put("v1", 4), put("v2", 4)}, api.OK},
		{"none", nil, api.ErrForm},
		{"one less", placed()[:1], api.ErrForm},
		{"one more", append(placed(), put("v3", 1)), api.ErrForm},
		{"another vehicle", []api.Placed{put("v1", 1), put("v3", 2)}, api.ErrForm},
		{"vehicles before days", []api.Placed{put("v1", 0), put("v3", 3)}, api.ErrForm},
		{"too early", []api.Placed{put("v1", 0), put("v2", 2)}, api.ErrRule},
		{"too late", []api.Placed{put("v1", 5), put("v2", 2)}, api.ErrRule},
		{"too early for the second one", []api.Placed{put("v1", 2), put("v2", 1)}, api.ErrRule},
		{"no slot", []api.Placed{put("v1", 3), put("v2", 2)}, api.ErrNone},
		{"slot before the next day", []api.Placed{put("v1", 3), put("v2", 1)}, api.ErrNone},
		{"day before the next slot", []api.Placed{put("v1", 0), put("v2", 3)}, api.ErrRule},
		{"no room", []api.Placed{put("v1", 2), put("v2", 2)}, api.ErrFull},
	})
	narrow := []api.Slot{{Day: 1, Many: 0}, {Day: 2, Many: 1}, {Day: 3, Many: 2}}
	three := []api.Wanted{want("v1", 1, 4), want("v2", 1, 4), want("v3", 2, 4)}
	runChecks(t, func(l []api.Placed) api.Errno { return shift.CheckPlaced(narrow, three, l) }, []check[api.Placed]{
		{"room", []api.Placed{put("v1", 3), put("v2", 2), put("v3", 3)}, api.OK},
		{"no room at all", []api.Placed{put("v1", 1), put("v2", 2), put("v3", 3)}, api.ErrFull},
		{"one too many", []api.Placed{put("v1", 3), put("v2", 3), put("v3", 3)}, api.ErrFull},
		{"the next day before room", []api.Placed{put("v1", 1), put("v2", 2), put("v3", 1)}, api.ErrRule},
	})
	is(t, "the next slot before room", shift.CheckPlaced(narrow[:2], three, []api.Placed{put("v1", 1), put("v2", 1), put("v3", 3)}), api.ErrNone)
	is(t, "nothing", shift.CheckPlaced(nil, nil, nil), api.OK)
	is(t, "no slots", shift.CheckPlaced(nil, wanted(), placed()), api.ErrNone)
	inOrder(t, "CheckPlaced", func(v values) api.Errno { return shift.CheckPlaced(v.slots, v.wanted, v.placed) }, badSlots, badWanted, badPlaced, otherPlaced, noRoom)
}

// P7.5
func TestLost(t *testing.T) {
	lost := func(what string, busy []api.Busy, l []api.Placed, want int) {
		t.Helper()
		cents, e := shift.Lost(busy, l)
		is(t, what, cents, want)
		is(t, what, e, api.OK)
	}
	lost("best", busy(), placed(), 20)
	lost("another one", busy(), []api.Placed{put("v1", 2), put("v2", 2)}, 70)
	lost("nothing", nil, nil, 0)
	lost("not busy", nil, placed(), 0)
	lost("not placed", busy(), nil, 0)
	lost("another vehicle", busy(), []api.Placed{put("v", 1)}, 0)
	for day, want := range map[int]int{4: 0, 5: 7, 6: 7, 7: 0} {
		lost(fmt.Sprint("day ", day), []api.Busy{use("v", 5, 7, 7)}, []api.Placed{put("v", day)}, want)
	}
	lost("no day", []api.Busy{use("v", 5, 5, 7)}, []api.Placed{put("v", 5)}, 0)
	lost("several", []api.Busy{use("v", 5, 7, 7), use("v", 5, 7, 7), use("v", 0, 9, 1), use("v", 7, 9, 3)}, []api.Placed{put("v", 5)}, 15)
	most := many(api.MaxBusy, func(int) api.Busy { return use("v", 0, api.MaxDay+1, api.MaxRate) })
	lost("most", most, []api.Placed{put("v", api.MaxDay)}, api.MaxBusy*api.MaxRate)
	inOrder(t, "Lost", func(v values) api.Errno { _, e := shift.Lost(v.busy, v.placed); return e }, badBusy, badPlaced)
	_, e := shift.Lost([]api.Busy{use("V", 0, 1, 1)}, []api.Placed{put("v", -1)})
	is(t, "busy before placed", e, api.ErrName)
	_, e = shift.Lost([]api.Busy{use("v", 0, 1, -1)}, []api.Placed{put("V", 1)})
	is(t, "busy before placed", e, api.ErrArg)
}

// P7.5
func TestPlace(t *testing.T) {
	slot := func(day, many int) api.Slot { return api.Slot{Day: day, Many: many} }
	cases := []struct {
		what  string
		slots []api.Slot
		w     []api.Wanted
		busy  []api.Busy
		want  []api.Placed
		lost  int
		e     api.Errno
	}{
		{"some", slots(), wanted(), busy(), placed(), 20, api.OK},
		{"nothing", nil, nil, nil, nil, 0, api.OK},
		{"none wanted", slots(), nil, busy(), nil, 0, api.OK},
		{"no slots", nil, wanted(), busy(), nil, 0, api.ErrFull},
		{"no slot on its days", slots(), []api.Wanted{want("v1", 3, 4)}, nil, nil, 0, api.ErrFull},
		{"no room on its day", []api.Slot{slot(3, 0)}, []api.Wanted{want("v1", 3, 4)}, nil, nil, 0, api.ErrFull},
		{"not room for all", []api.Slot{slot(3, 1), slot(4, 1)}, []api.Wanted{want("v1", 3, 5), want("v2", 3, 5), want("v3", 0, 9)}, nil, nil, 0, api.ErrFull},
		{"the lesser days", []api.Slot{slot(1, 1), slot(2, 1), slot(3, 1)}, []api.Wanted{want("v1", 0, 9), want("v2", 0, 9)}, nil, []api.Placed{put("v1", 1), put("v2", 2)}, 0, api.OK},
		{"both on the first day", []api.Slot{slot(1, 2), slot(2, 1)}, []api.Wanted{want("v1", 0, 9), want("v2", 0, 9)}, nil, []api.Placed{put("v1", 1), put("v2", 1)}, 0, api.OK},
		{"the first one gives way", []api.Slot{slot(1, 1), slot(2, 1)}, []api.Wanted{want("v1", 0, 9), want("v2", 0, 2)}, nil, []api.Placed{put("v1", 2), put("v2", 1)}, 0, api.OK},
		{"the first one loses less", []api.Slot{slot(1, 1), slot(2, 1)}, []api.Wanted{want("v1", 0, 9), want("v2", 0, 9)},
			[]api.Busy{use("v1", 2, 3, 4), use("v2", 2, 3, 5)}, []api.Placed{put("v1", 2), put("v2", 1)}, 4, api.OK},
		{"the lesser days of equal losses", []api.Slot{slot(1, 1), slot(2, 1)}, []api.Wanted{want("v1", 0, 9), want("v2", 0, 9)},
			[]api.Busy{use("v1", 0, 9, 4), use("v2", 0, 9, 5)}, []api.Placed{put("v1", 1), put("v2", 2)}, 9, api.OK},
	}
	for _, c := range cases {
		l, lost, e := shift.Place(c.slots, c.w, c.busy)
		same(t, c.what, l, c.want)
		is(t, c.what, lost, c.lost)
		is(t, c.what, e, c.e)
	}
	function := func(v values) api.Errno { _, _, e := shift.Place(v.slots, v.wanted, v.busy); return e }
	inOrder(t, "Place", function, badSlots, badWanted, badBusy)
	inOrder(t, "Place", function, badSlots, badWanted, noRoom)
	inOrder(t, "Place", function, badBusy, noRoom)
}

// P7.5: Place, against all days that placed ones can have.
func TestPlaceAtRandom(t *testing.T) {
	r := rand.New(rand.NewSource(78))
	right, full := 0, 0
	for range 1500 {
		slots := many(1+r.Intn(4), func(i int) api.Slot { return api.Slot{Day: 2*i + r.Intn(2), Many: r.Intn(3)} })
		w := many(r.Intn(5), func(i int) api.Wanted {
			from := r.Intn(6)
			return want(key(i), from, from+r.Intn(8))
		})
		busy := many(r.Intn(9), func(int) api.Busy {
			from := r.Intn(7)
			return use(key(r.Intn(4)), from, from+r.Intn(3), r.Intn(4))
		})
		var best []api.Placed
		lowest, found := 0, false
		days := daysOf(slots, len(w))
		for _, d := range days {
			l := many(len(w), func(i int) api.Placed { return put(w[i].Vehicle, d[i]) })
			is(t, "CheckPlaced", shift.CheckPlaced(slots, w, l) == api.OK, fits(slots, w, l))
			cents, e := shift.Lost(busy, l)
			is(t, "Lost", cents, lostOf(busy, l))
			is(t, "Lost", e, api.OK)
			if fits(slots, w, l) && (!found || cents < lowest) {
				best, lowest, found = l, cents, true
			}
		}
		l, cents, e := shift.Place(slots, w, busy)
		same(t, "Place", l, best)
		is(t, "Place", cents, lowest)
		if found {
			is(t, "Place", e, api.OK)
			right++
		} else {
			is(t, "Place", e, api.ErrFull)
			full++
		}
	}
	if right < 400 || full < 200 {
		t.Errorf("only %d can be placed, and only %d cannot", right, full)
	}
}

// daysOf has all lists of so many days of slots, as they rise.
func daysOf(slots []api.Slot, count int) [][]int {
	all := [][]int{nil}
	for range count {
		var longer [][]int
		for _, days := range all {
			for _, s := range slots {
				longer = append(longer, append(slices.Clip(days), s.Day))
			}
		}
		all = longer
	}
	return all
}

// fits looks at each vehicle, and counts those of each slot.
func fits(slots []api.Slot, w []api.Wanted, l []api.Placed) bool {
	for i, p := range l {
		if p.Day < w[i].From || p.Day >= w[i].To {
			return false
		}
	}
	for _, s := range slots {
		count := 0
		for _, p := range l {
			if p.Day == s.Day {
				count++
			}
		}
		if count > s.Many {
			return false
		}
	}
	return true
}

// lostOf goes through all days of all busy ones.
func lostOf(busy []api.Busy, l []api.Placed) int {
	cents := 0
	for _, b := range busy {
		for day := b.From; day < b.To; day++ {
			if slices.Contains(l, put(b.Vehicle, day)) {
				cents += b.Cents
			}
		}
	}
	return cents
}

// P7.5: with as many vehicles and slots as there can be.
func TestMostPlaced(t *testing.T) {
	r := rand.New(rand.NewSource(79))
	for range 5 {
		slots := many(api.MaxSlots, func(i int) api.Slot { return api.Slot{Day: i, Many: 1} })
		w := many(api.MaxService, func(i int) api.Wanted { return want(key(i), 0, api.MaxSlots) })
		var busy []api.Busy
		for i := range api.MaxService {
			for day := range api.MaxSlots {
				busy = append(busy, use(key(i), day, day+1, 1000-10*day+r.Intn(9)))
			}
		}
		l, lost, e := shift.Place(slots, w, busy)
		is(t, "most", e, api.OK)
		is(t, "most", shift.CheckPlaced(slots, w, l), api.OK)
		cents, _ := shift.Lost(busy, l)
		is(t, "most", lost, cents)
		// The last days lose the least, whoever is there.
		for _, p := range l {
			is(t, "a day", p.Day >= api.MaxSlots-api.MaxService, true)
		}
	}
}
