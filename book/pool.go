package book

import (
	"iter"
	"slices"

	"forecourt/api"
	"forecourt/lot"
)

// vehicle is number unit of a class.
type vehicle struct {
	class string
	unit  int
}

// pool is what bookings can get: how many vehicles a class has, and which classes may be given for one, by the steps to them.
type pool struct {
	many    map[string]int
	ladders map[string][]string
}

// poolOf makes the pool for bookings; all of it is right.
func poolOf(classes []api.Class, s []api.Stock, l []api.Booking) pool {
	p := pool{manyOf(s), map[string][]string{}}
	for _, b := range l {
		if _, known := p.ladders[b.Class]; !known {
			above, _ := lot.Above(classes, b.Class)
			p.ladders[b.Class] = append([]string{b.Class}, above...)
		}
	}
	return p
}

// manyOf has how many vehicles of each class there are.
func manyOf(s []api.Stock) map[string]int {
	many := make(map[string]int, len(s))
	for _, x := range s {
		many[x.Class] = x.Many
	}
	return many
}

// steps is how many steps lead from the class of a booking to the one that it is given; below 0, if none do.
func (p pool) steps(want, have string) int { return slices.Index(p.ladders[want], have) }

// choices are the vehicles that a booking of a class may get, with the steps to them: the fewest first, then by unit.
func (p pool) choices(class string) iter.Seq2[int, vehicle] {
	return func(yield func(int, vehicle) bool) {
		for steps, have := range p.ladders[class] {
			for unit := 1; unit <= p.many[have]; unit++ {
				if !yield(steps, vehicle{have, unit}) {
					return
				}
			}
		}
	}
}

// meet says whether two bookings are on at one moment.
func meet(a, b api.Booking) bool { return a.Time.From < b.Time.To && b.Time.From < a.Time.To }

// isTaken says whether the booking with a number cannot have a vehicle, because one before it has it, and meets it.
func isTaken(l []api.Booking, given []vehicle, number int, v vehicle) bool {
	for i, b := range l[:number] {
		if given[i] == v && meet(b, l[number]) {
			return true
		}
	}
	return false
}
