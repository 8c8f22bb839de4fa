package shift

import (
	"forecourt/api"
	"forecourt/basic"
)

// most is how far prices can be from 0.
const most = 10 * api.MaxRate

// checkPrices says whether prices are right for needs.
func checkPrices(needs []api.Need, p []api.Price) api.Errno {
	if len(p) != len(needs) {
		return api.ErrForm
	}
	for i, x := range p {
		if x.Station != needs[i].Station {
			return api.ErrForm
		}
	}
	for _, x := range p {
		if !basic.Within(x.Cents, -most, most) {
			return api.ErrArg
		}
	}
	return api.OK
}

// Bound is the bound of prices.
func Bound(needs []api.Need, roads []api.Road, p []api.Price) (int, api.Errno) {
	if e := checkOffice(needs, roads); e != api.OK {
		return 0, e
	}
	if e := checkPrices(needs, p); e != api.OK {
		return 0, e
	}
	return boundOf(needs, roads, p), api.OK
}

func boundOf(needs []api.Need, roads []api.Road, p []api.Price) int {
	bound := 0
	for i, n := range needs {
		if n.Many < 0 {
			bound -= n.Many * p[i].Cents
		} else {
			bound -= n.Many * max(0, p[i].Cents)
		}
	}
	for _, l := range lanesOf(needs, roads) {
		gain := p[l.to].Cents - p[l.from].Cents - l.car
		bound -= max(0, gain) * min(needs[l.from].Many, -needs[l.to].Many)
	}
	return bound
}

// Proves says whether prices prove a plan.
func Proves(needs []api.Need, roads []api.Road, l []api.Move, p []api.Price) (bool, api.Errno) {
	cents, e := Cost(needs, roads, l)
	if e != api.OK {
		return false, e
	}
	if e := checkPrices(needs, p); e != api.OK {
		return false, e
	}
	return cents == boundOf(needs, roads, p), api.OK
}

// Prove returns prices that prove the cheapest plan.
func Prove(needs []api.Need, roads []api.Road) ([]api.Price, api.Errno) {
	if e := checkOffice(needs, roads); e != api.OK {
		return nil, e
	}
	lanes := lanesOf(needs, roads)
	loads, ok := leastLoads(manyOf(needs), lanes)
	if !ok {
		return nil, api.ErrFull
	}
	worth := worthOf(manyOf(needs), lanes, loads)
	prices := make([]api.Price, len(needs))
	for i, n := range needs {
		prices[i] = api.Price{Station: n.Station, Cents: worth[i]}
	}
	return prices, api.OK
}

// worthOf returns what a car is worth at each station when cars go on the lanes of a cheapest plan: no car is worth less than nothing, and one that stays is worth just that; no lane gains more than it costs, and one that is used gains just as much. Then the bound comes to the cost of the loads.
func worthOf(left []int, lanes []lane, loads []int) []int {
	for i, l := range lanes {
		left[l.from] -= loads[i]
	}
	worth, nothing := make([]int, len(left)), 0
	again := true
	fall := func(cents *int, most int) {
		if *cents > most {
			*cents, again = most, true
		}
	}
	// All of them fall from 0 on, nothing too, until they agree. The cheapest trails have no ring of a negative cost, so this ends.
	for again {
		again = false
		for i, l := range lanes {
			fall(&worth[l.to], worth[l.from]+l.car)
			if loads[i] > 0 {
				fall(&worth[l.from], worth[l.to]-l.car)
			}
		}
		for i, many := range left {
			if many >= 0 {
				fall(&nothing, worth[i])
			}
			if many > 0 {
				fall(&worth[i], nothing)
			}
		}
	}
	for i := range worth {
		worth[i] -= nothing
	}
	return worth
}
