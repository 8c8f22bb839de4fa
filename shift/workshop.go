package shift

import (
	"slices"

	"forecourt/api"
	"forecourt/basic"
)

func checkSlots(l []api.Slot) api.Errno {
	if len(l) > api.MaxSlots {
		return api.ErrLarge
	}
	before := -1 // less than all days
	for _, s := range l {
		if !isDay(s.Day) || !basic.Within(s.Many, 0, api.MaxCars) {
			return api.ErrArg
		}
		if s.Day <= before {
			return api.ErrOrder
		}
		before = s.Day
	}
	return api.OK
}

func checkWanted(l []api.Wanted) api.Errno {
	if len(l) > api.MaxService {
		return api.ErrLarge
	}
	before := "" // less than all keys
	for _, w := range l {
		switch {
		case !basic.IsKey(w.Vehicle):
			return api.ErrName
		case w.Vehicle <= before:
			return api.ErrOrder
		case !areDays(w.From, w.To):
			return api.ErrArg
		}
		before = w.Vehicle
	}
	return api.OK
}

// areDays says whether the days from one on, before another one, are right.
func areDays(from, to int) bool { return basic.Within(from, 0, to) && to <= api.MaxDay+1 }

// checkRight says whether placed ones are right.
func checkRight(l []api.Placed) api.Errno {
	if len(l) > api.MaxService {
		return api.ErrLarge
	}
	before := "" // less than all keys
	for _, p := range l {
		switch {
		case !basic.IsKey(p.Vehicle):
			return api.ErrName
		case p.Vehicle <= before:
			return api.ErrOrder
		case !isDay(p.Day):
			return api.ErrArg
		}
		before = p.Vehicle
	}
	return api.OK
}

func checkBusy(l []api.Busy) api.Errno {
	if len(l) > api.MaxBusy {
		return api.ErrLarge
	}
	for _, b := range l {
		if !basic.IsKey(b.Vehicle) {
			return api.ErrName
		}
		if !areDays(b.From, b.To) || !isRate(b.Cents) {
			return api.ErrArg
		}
	}
	return api.OK
}

// CheckPlaced says whether placed ones are right for slots and wanted ones.
func CheckPlaced(slots []api.Slot, w []api.Wanted, l []api.Placed) api.Errno {
	if e := checkSlots(slots); e != api.OK {
		return e
	}
	if e := checkWanted(w); e != api.OK {
		return e
	}
	if e := checkRight(l); e != api.OK {
		return e
	}
	sameVehicle := func(x api.Wanted, p api.Placed) bool { return x.Vehicle == p.Vehicle }
	if !slices.EqualFunc(w, l, sameVehicle) {
		return api.ErrForm
	}
	room := make(map[int]int, len(slots))
	for _, s := range slots {
		room[s.Day] = s.Many
	}
	for i, p := range l {
		if !isWanted(w[i], p.Day) {
			return api.ErrRule
		}
		if _, ok := room[p.Day]; !ok {
			return api.ErrNone
		}
		room[p.Day]--
	}
	for _, p := range l {
		if room[p.Day] < 0 {
			return api.ErrFull
		}
	}
	return api.OK
}

func isWanted(w api.Wanted, day int) bool { return w.From <= day && day < w.To }

// Lost is what is lost by placed ones.
func Lost(busy []api.Busy, l []api.Placed) (int, api.Errno) {
	if e := checkBusy(busy); e != api.OK {
		return 0, e
	}
	if e := checkRight(l); e != api.OK {
		return 0, e
	}
	cents := 0
	for _, p := range l {
		cents += lostBy(busy, p)
	}
	return cents, api.OK
}

func lostBy(busy []api.Busy, p api.Placed) int {
	cents := 0
	for _, b := range busy {
		if b.Vehicle == p.Vehicle && b.From <= p.Day && p.Day < b.To {
			cents += b.Cents
		}
	}
	return cents
}

// Place puts services where they cost the least.
func Place(slots []api.Slot, w []api.Wanted, busy []api.Busy) ([]api.Placed, int, api.Errno) {
	if e := checkSlots(slots); e != api.OK {
		return nil, 0, e
	}
	if e := checkWanted(w); e != api.OK {
		return nil, 0, e
	}
	if e := checkBusy(busy); e != api.OK {
		return nil, 0, e
	}
	lost := make([][]int, len(w))
	for i, x := range w {
		for _, s := range slots {
			lost[i] = append(lost[i], lostBy(busy, api.Placed{Vehicle: x.Vehicle, Day: s.Day}))
		}
	}
	// Slots rise, so the least numbers of them are the lesser days.
	numbers, cents, ok := basic.Cheapest(len(w), len(slots), func(before []int, slot int) (int, bool) {
		vehicle := len(before)
		free := hasRoom(slots[slot].Many, before, slot)
		return lost[vehicle][slot], free && isWanted(w[vehicle], slots[slot].Day)
	})
	if !ok {
		return nil, 0, api.ErrFull
	}
	placed := make([]api.Placed, len(w))
	for i, slot := range numbers {
		placed[i] = api.Placed{Vehicle: w[i].Vehicle, Day: slots[slot].Day}
	}
	return placed, cents, api.OK
}

// hasRoom says whether there are less than so many in a slot.
func hasRoom(many int, before []int, slot int) bool {
	for _, s := range before {
		if s == slot {
			many--
		}
	}
	return many > 0
}
