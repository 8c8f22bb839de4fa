package mark

import (
	"cmp"
	"maps"
	"slices"

	"forecourt/api"
	"forecourt/basic"
	"forecourt/hire"
)

// office is the Hire of the share that the office pays.
const office = ""

// Split divides cents by weights.
func Split(cents int, weights []int) ([]int, api.Errno) {
	sum, e := checkSplit(cents, weights)
	if e != api.OK {
		return nil, e
	}
	parts := make([]int, len(weights))
	order := make([]int, len(weights))
	left := cents
	for i, w := range weights {
		parts[i] = cents * w / sum
		left -= parts[i]
		order[i] = i
	}
	rest := func(i int) int { return cents * weights[i] % sum }
	slices.SortStableFunc(order, func(i, j int) int { return cmp.Compare(rest(j), rest(i)) })
	for _, i := range order[:left] {
		parts[i]++
	}
	return parts, api.OK
}

// checkSplit says whether cents can be divided by weights, and what these are together.
func checkSplit(cents int, weights []int) (int, api.Errno) {
	if !isCents(cents) {
		return 0, api.ErrArg
	}
	if len(weights) > api.MaxShares {
		return 0, api.ErrLarge
	}
	sum := 0
	for _, w := range weights {
		if !basic.Within(w, 0, api.End) {
			return 0, api.ErrArg
		}
		sum += w
	}
	if sum == 0 {
		return 0, api.ErrNone
	}
	return sum, api.OK
}

func isCents(n int) bool { return basic.Within(n, 0, api.MaxCents) }

// Blame divides the cost of a mark among those who had the vehicle.
func Blame(vehicle string, w api.Window, l []api.Hire, cents int) ([]api.Share, api.Errno) {
	if !basic.IsKey(vehicle) {
		return nil, api.ErrName
	}
	if !basic.IsWindow(w) {
		return nil, api.ErrArg
	}
	if e := hire.CheckAll(l); e != api.OK {
		return nil, e
	}
	holds := holdsOf(vehicle, w, l)
	if meet(holds) {
		return nil, api.ErrConflict
	}
	weights := weigh(w, holds)
	if len(weights) > api.MaxShares {
		return nil, api.ErrLarge
	}
	return sharesOf(cents, weights)
}

// hold is a time, of at least one moment, in which a hire has a vehicle.
type hold struct {
	hire string
	time api.Window
}

// holdsOf has who holds a vehicle in a window, and when, as it begins.
func holdsOf(vehicle string, w api.Window, l []api.Hire) []hold {
	var holds []hold
	for _, h := range l {
		for _, leg := range h.Legs {
			lasts := basic.Lasts(leg)
			if leg.Vehicle == vehicle && basic.Overlap(lasts, w) > 0 {
				within := api.Window{From: max(lasts.From, w.From), To: min(lasts.To, w.To)}
				holds = append(holds, hold{h.Key, within})
			}
		}
	}
	slices.SortFunc(holds, func(a, b hold) int { return cmp.Compare(a.time.From, b.time.From) })
	return holds
}

// meet says whether two holds have one moment. The legs of one hire never do: these are then of two hires.
func meet(holds []hold) bool {
	for i := 1; i < len(holds); i++ {
		if holds[i].time.From < holds[i-1].time.To {
			return true
		}
	}
	return false
}

// weigh is how many moments of a window each hire holds the vehicle, and the office, where nobody else does. There is at least one who pays.
func weigh(w api.Window, holds []hold) map[string]int {
	weights := map[string]int{}
	free := w.To - w.From
	for _, h := range holds {
		minutes := h.time.To - h.time.From
		weights[h.hire] += minutes
		free -= minutes
	}
	if free > 0 {
		weights[office] = free
	}
	if w.From == w.To {
		weights[office] = 1
	}
	return weights
}

// sharesOf divides cents by the weights of hires.
func sharesOf(cents int, weights map[string]int) ([]api.Share, api.Errno) {
	hires := slices.Sorted(maps.Keys(weights))
	var inOrder []int
	for _, key := range hires {
		inOrder = append(inOrder, weights[key])
	}
	parts, e := Split(cents, inOrder)
	if e != api.OK {
		return nil, e
	}
	var shares []api.Share
	for i, key := range hires {
		shares = append(shares, api.Share{Hire: key, Cents: parts[i]})
	}
	return shares, api.OK
}

// Excess is what hires pay with their waivers, and what is left.
func Excess(l []api.Share, waivers []api.Waiver) ([]api.Share, int, api.Errno) {
	if e := checkShares(l); e != api.OK {
		return nil, 0, e
	}
	if e := checkWaivers(waivers); e != api.OK {
		return nil, 0, e
	}
	most := make(map[string]int, len(waivers))
	for _, w := range waivers {
		most[w.Hire] = w.Excess
	}
	var paid []api.Share
	left := 0
	for _, s := range l {
		left += s.Cents
		if s.Hire == office {
			continue
		}
		if excess, waived := most[s.Hire]; waived {
			s.Cents = min(s.Cents, excess)
		}
		left -= s.Cents
		paid = append(paid, s)
	}
	return paid, left, api.OK
}

func checkShares(l []api.Share) api.Errno {
	if len(l) > api.MaxShares {
		return api.ErrLarge
	}
	for i, s := range l {
		switch {
		case s.Hire != office && !basic.IsKey(s.Hire):
			return api.ErrName
		case i > 0 && s.Hire <= l[i-1].Hire:
			return api.ErrOrder
		case !isCents(s.Cents):
			return api.ErrArg
		}
	}
	return api.OK
}

func checkWaivers(l []api.Waiver) api.Errno {
	if len(l) > api.MaxHires {
		return api.ErrLarge
	}
	before := "" // less than all keys
	for _, w := range l {
		switch {
		case !basic.IsKey(w.Hire):
			return api.ErrName
		case w.Hire <= before:
			return api.ErrOrder
		case !isCents(w.Excess):
			return api.ErrArg
		}
		before = w.Hire
	}
	return api.OK
}
