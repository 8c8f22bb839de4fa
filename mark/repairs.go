package mark

import (
	"cmp"
	"slices"

	"forecourt/api"
	"forecourt/basic"
)

// Groups returns the groups of marks that are repaired together.
func Groups(p []api.Panel, r api.Rules, l []api.Mark) ([][]int, api.Errno) {
	if e := checkAll(p, r, l); e != api.OK {
		return nil, e
	}
	return groupsOf(r, l), api.OK
}

// groupsOf has the groups of marks that are right.
func groupsOf(r api.Rules, l []api.Mark) [][]int {
	var groups [][]int
	grouped := make([]bool, len(l))
	for first := range l {
		if grouped[first] {
			continue
		}
		grouped[first] = true
		group := []int{first}
		for i := 0; i < len(group); i++ {
			for other := range l {
				if !grouped[other] && joined(r, l[group[i]], l[other]) {
					grouped[other] = true
					group = append(group, other)
				}
			}
		}
		slices.Sort(group)
		groups = append(groups, group)
	}
	return groups
}

func joined(r api.Rules, a, b api.Mark) bool {
	return a.Panel == b.Panel && distance(a, b) <= r.Join*r.Join
}

// CheckRepairs says whether repairs are right.
func CheckRepairs(l []api.Repair) api.Errno {
	if len(l) > api.MaxRepairs {
		return api.ErrLarge
	}
	for i, x := range l {
		switch {
		case !isKind(x.Kind):
			return api.ErrKind
		case !isSize(x.From) || !basic.Within(x.Cents, 0, api.MaxRate):
			return api.ErrArg
		case i > 0 && compareRepairs(l[i-1], x) >= 0:
			return api.ErrOrder
		}
	}
	return api.OK
}

func compareRepairs(a, b api.Repair) int {
	return cmp.Or(cmp.Compare(a.Kind, b.Kind), cmp.Compare(a.From, b.From))
}

// Price is what a mark costs.
func Price(l []api.Repair, m api.Mark) (int, api.Errno) {
	if e := CheckRepairs(l); e != api.OK {
		return 0, e
	}
	if e := checkForm([]api.Mark{m}); e != api.OK {
		return 0, e
	}
	return priceOf(l, m), api.OK
}

// priceOf is what a mark costs by repairs that are right: of one kind the last one that counts is the greatest.
func priceOf(l []api.Repair, m api.Mark) int {
	cents := 0
	for _, x := range l {
		if x.Kind == m.Kind && x.From <= m.Size {
			cents = x.Cents
		}
	}
	return cents
}

// Estimate is what panels cost, and all of them together.
func Estimate(p []api.Panel, r api.Rules, costs []api.Repair, l []api.Mark) ([]int, int, api.Errno) {
	if e := CheckRules(r); e != api.OK {
		return nil, 0, e
	}
	if e := CheckRepairs(costs); e != api.OK {
		return nil, 0, e
	}
	if e := CheckMarks(p, l); e != api.OK {
		return nil, 0, e
	}
	groups := map[string]int{} // what those of a panel cost
	for _, group := range groupsOf(r, l) {
		groups[l[group[0]].Panel] += groupCost(r, costs, l, group)
	}
	var cents []int
	sum := 0
	for _, panel := range p {
		cost := min(groups[panel.Key], panel.Price)
		cents = append(cents, cost)
		sum += cost
	}
	return cents, sum, api.OK
}

// groupCost is what a group of marks costs: the dearest one as a whole, and a part of all others.
func groupCost(r api.Rules, costs []api.Repair, l []api.Mark, group []int) int {
	dearest, sum := 0, 0
	for _, number := range group {
		price := priceOf(costs, l[number])
		dearest = max(dearest, price)
		sum += price
	}
	return dearest + r.Part*(sum-dearest)/basic.Whole
}
