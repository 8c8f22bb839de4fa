package book

import (
	"forecourt/api"
	"forecourt/basic"
)

// Assign gives vehicles to all bookings, with the fewest upgrades.
func Assign(classes []api.Class, s []api.Stock, l []api.Booking) ([]api.Given, api.Errno) {
	if e := checkBoth(classes, s, l); e != api.OK {
		return nil, e
	}
	if len(l) > api.MaxExact {
		return nil, api.ErrLarge
	}
	vehicles, ok := poolOf(classes, s, l).assign(l)
	if !ok {
		return nil, api.ErrFull
	}
	var given []api.Given
	for i, v := range vehicles {
		given = append(given, api.Given{Booking: l[i].Key, Class: v.class, Unit: v.unit})
	}
	return given, api.OK
}

// option is a vehicle that a booking may get, and the steps to it.
type option struct {
	steps   int
	vehicle vehicle
}

// assign has a vehicle for each of a few bookings, with the fewest steps in all, and whether there are enough of them. Of several assignments with as few steps it is the least one, as the first bookings try the first vehicles first.
func (p pool) assign(l []api.Booking) ([]vehicle, bool) {
	options := p.options(l)
	given := make([]vehicle, len(l))
	give := func(numbers []int) {
		for i, number := range numbers {
			given[i] = options[i][number].vehicle
		}
	}
	// A booking has no more options than there are bookings.
	numbers, _, found := basic.Cheapest(len(l), len(l), func(before []int, number int) (int, bool) {
		booking := len(before)
		if number >= len(options[booking]) {
			return 0, false
		}
		give(before)
		o := options[booking][number]
		return o.steps, !isTaken(l, given, booking, o.vehicle)
	})
	give(numbers)
	return given, found
}

// options are the vehicles that each booking has to try: as many as there are bookings that meet it, with itself. Whatever the others have, one of these is free; so no later one is in the least assignment.
func (p pool) options(l []api.Booking) [][]option {
	options := make([][]option, len(l))
	for i, b := range l {
		tries := countMeeting(l, b)
		for steps, v := range p.choices(b.Class) {
			if len(options[i]) == tries {
				break
			}
			options[i] = append(options[i], option{steps, v})
		}
	}
	return options
}

// countMeeting is how many bookings meet one.
func countMeeting(l []api.Booking, b api.Booking) int {
	n := 0
	for _, other := range l {
		if meet(b, other) {
			n++
		}
	}
	return n
}
