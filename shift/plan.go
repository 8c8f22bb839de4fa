package shift

import (
	"slices"

	"forecourt/api"
)

// Plan is the cheapest plan.
func Plan(needs []api.Need, roads []api.Road) ([]api.Move, api.Errno) {
	if e := checkOffice(needs, roads); e != api.OK {
		return nil, e
	}
	left, lanes := manyOf(needs), lanesOf(needs, roads)
	cents, ok := leastCost(left, lanes)
	if !ok {
		return nil, api.ErrFull
	}
	var plan []api.Move
	for i, l := range lanes {
		if many := firstLoad(left, lanes[i:], cents); many > 0 {
			plan = append(plan, api.Move{A: needs[l.from].Station, B: needs[l.to].Station, Many: many})
			left[l.from] -= many
			left[l.to] += many
			cents -= many * l.car
		}
	}
	return plan, api.OK
}

// firstLoad is how many cars go on the first lane in the least one of the plans that cost so much. A plan with fewer cars there is less, but one without any begins with a later move, and is more than all of these.
func firstLoad(left []int, lanes []lane, cents int) int {
	left = slices.Clone(left)
	l := lanes[0]
	for many := 1; left[l.from] > 0 && left[l.to] < 0; many++ {
		left[l.from]--
		left[l.to]++
		if rest, ok := leastCost(left, lanes[1:]); ok && many*l.car+rest == cents {
			return many
		}
	}
	return 0
}

func manyOf(needs []api.Need) []int {
	many := make([]int, len(needs))
	for i, n := range needs {
		many[i] = n.Many
	}
	return many
}

// lane is a road that a plan can use: from a station with too many cars to one with too few, by the numbers of their needs.
type lane struct{ from, to, car int }

// lanesOf returns lanes in the order of roads, which is that of moves.
func lanesOf(needs []api.Need, roads []api.Road) []lane {
	numbers := make(map[string]int, len(needs))
	for i, n := range needs {
		numbers[n.Station] = i
	}
	var lanes []lane
	for _, r := range roads {
		a, isA := numbers[r.A]
		b, isB := numbers[r.B]
		if isA && isB && needs[a].Many > 0 && needs[b].Many < 0 {
			lanes = append(lanes, lane{a, b, r.Car})
		}
	}
	return lanes
}

// leastCost is what it costs at least to bring cars to all stations that have too few, and whether this is possible.
func leastCost(left []int, lanes []lane) (int, bool) {
	loads, ok := leastLoads(left, lanes)
	cents := 0
	for i, many := range loads {
		cents += many * lanes[i].car
	}
	return cents, ok
}

// leastLoads returns how many cars go on each lane in a cheapest plan, and whether there is one. Car by car goes on the cheapest trail that is left: however many have gone, no other loads move as many for less.
func leastLoads(left []int, lanes []lane) ([]int, bool) {
	left, loads := slices.Clone(left), make([]int, len(lanes))
	for slices.ContainsFunc(left, func(many int) bool { return many < 0 }) {
		trails := trailsOf(left, lanes, loads)
		goal := -1
		for to, t := range trails {
			if left[to] < 0 && t.there && (goal == -1 || t.cents < trails[goal].cents) {
				goal = to
			}
		}
		if goal == -1 {
			return nil, false
		}
		follow(goal, trails, left, lanes, loads)
	}
	return loads, true
}

// trail is the cheapest way to have one car more at a station: what this costs, and the lane of its last step; this is begun if the car is there already. A step to a station that has too few cars is one more car on the lane; a step to one that has too many is one less.
type trail struct {
	there, begun bool
	cents, lane  int
}

func trailsOf(left []int, lanes []lane, loads []int) []trail {
	trails := make([]trail, len(left))
	for i, many := range left {
		trails[i] = trail{there: many > 0, begun: many > 0}
	}
	again := true
	step := func(from, to, cents, lane int) {
		next := trail{there: true, cents: trails[from].cents + cents, lane: lane}
		if trails[from].there && (!trails[to].there || next.cents < trails[to].cents) {
			trails[to], again = next, true
		}
	}
	for again {
		again = false
		for i, l := range lanes {
			step(l.from, l.to, l.car, i)
			if loads[i] > 0 {
				step(l.to, l.from, -l.car, i)
			}
		}
	}
	return trails
}

// follow moves a car on the trail to a station with too few.
func follow(goal int, trails []trail, left []int, lanes []lane, loads []int) {
	left[goal]++
	at := goal
	for !trails[at].begun {
		l := trails[at].lane
		if at == lanes[l].to {
			loads[l]++
			at = lanes[l].from
		} else {
			loads[l]--
			at = lanes[l].to
		}
	}
	left[at]--
}
