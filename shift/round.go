package shift

import (
	"slices"

	"forecourt/api"
	"forecourt/basic"
)

// checkRound says whether roads, the station of a driver and moves are right.
func checkRound(roads []api.Road, start string, l []api.Move) api.Errno {
	if e := CheckRoads(roads); e != api.OK {
		return e
	}
	if !basic.IsKey(start) {
		return api.ErrName
	}
	return checkForm(l)
}

// ride is what a driver without a car pays from one station to another one, and whether they get there.
func (n net) ride(from, to string) (int, bool) {
	if from == to {
		return 0, true
	}
	r, ok := n[way{from, to}]
	return r.Ride, ok
}

// step is what a driver at a station pays for a move, and whether there are the roads for it.
func (n net) step(at string, m api.Move) (int, bool) {
	ride, isThere := n.ride(at, m.A)
	r, ok := n[way{m.A, m.B}]
	return ride + r.Car, isThere && ok
}

// round is what a driver pays for moves in an order, and whether there are the roads for it.
func (n net) round(start string, l []api.Move, order []int) (int, bool) {
	at, cents := start, 0
	for _, number := range order {
		step, ok := n.step(at, l[number])
		if !ok {
			return 0, false
		}
		cents += step
		at = l[number].B
	}
	home, ok := n.ride(at, start)
	return cents + home, ok
}

// RoundCost is what it costs to make moves in an order.
func RoundCost(roads []api.Road, start string, l []api.Move, order []int) (int, api.Errno) {
	if e := checkRound(roads, start, l); e != api.OK {
		return 0, e
	}
	if e := checkOrder(len(l), order); e != api.OK {
		return 0, e
	}
	cents, ok := netOf(roads).round(start, l, order)
	if !ok {
		return 0, api.ErrNone
	}
	return cents, api.OK
}

// checkOrder says whether an order has each of so many moves once.
func checkOrder(moves int, order []int) api.Errno {
	if len(order) != moves {
		return api.ErrForm
	}
	made := make([]bool, moves)
	for _, number := range order {
		if !basic.Within(number, 0, moves-1) {
			return api.ErrNone
		}
		if made[number] {
			return api.ErrTwice
		}
		made[number] = true
	}
	return api.OK
}

// Round is the cheapest order of moves.
func Round(roads []api.Road, start string, l []api.Move) ([]int, int, api.Errno) {
	if e := checkRound(roads, start, l); e != api.OK {
		return nil, 0, e
	}
	if len(l) > api.MaxMoves {
		return nil, 0, api.ErrLarge
	}
	n := netOf(roads)
	order, cents, ok := basic.Cheapest(len(l), len(l), func(made []int, next int) (int, bool) {
		if slices.Contains(made, next) {
			return 0, false
		}
		at := start
		if len(made) > 0 {
			at = l[made[len(made)-1]].B
		}
		step, ok := n.step(at, l[next])
		if !ok || len(made)+1 < len(l) {
			return step, ok
		}
		home, ok := n.ride(l[next].B, start)
		return step + home, ok
	})
	if !ok {
		return nil, 0, api.ErrNone
	}
	return order, cents, api.OK
}

// Nearest is the order in which the next move is the nearest one.
func Nearest(roads []api.Road, start string, l []api.Move) ([]int, int, api.Errno) {
	if e := checkRound(roads, start, l); e != api.OK {
		return nil, 0, e
	}
	n := netOf(roads)
	order, made := make([]int, 0, len(l)), make([]bool, len(l))
	at := start
	for range l {
		next, ok := n.nearest(at, l, made)
		if !ok {
			return nil, 0, api.ErrNone
		}
		order = append(order, next)
		made[next] = true
		at = l[next].B
	}
	cents, ok := n.round(start, l, order)
	if !ok {
		return nil, 0, api.ErrNone
	}
	return order, cents, api.OK
}

// nearest is the first one of the moves that are not made with the least ride, and whether any can be reached.
func (n net) nearest(at string, l []api.Move, made []bool) (int, bool) {
	next, least := -1, 0
	for i, m := range l {
		if made[i] {
			continue
		}
		if ride, ok := n.ride(at, m.A); ok && (next == -1 || ride < least) {
			next, least = i, ride
		}
	}
	return next, next != -1
}
