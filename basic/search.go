package basic

import "slices"

// Cheapest tries lists of so many choices, each of which is a number below another one, and returns the list that costs least (of several the least one), what it costs, and whether there is any. step is what a choice costs behind those before it, 0 or more, and whether it is permitted there.
func Cheapest(long, choices int, step func(before []int, choice int) (int, bool)) ([]int, int, bool) {
	list := make([]int, 0, long)
	var best []int
	least, found := 0, false
	var extend func(cost int)
	extend = func(cost int) {
		// Lists are tried as they rise: a later one has to cost less.
		if found && cost >= least {
			return
		}
		if len(list) == long {
			best, least, found = slices.Clone(list), cost, true
			return
		}
		for choice := range choices {
			if more, ok := step(list, choice); ok {
				list = append(list, choice)
				extend(cost + more)
				list = list[:len(list)-1]
			}
		}
	}
	extend(0)
	return best, least, found
}
