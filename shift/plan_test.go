package shift_test

import (
	"math/rand"
	"slices"
	"testing"

	"forecourt/api"
	"forecourt/shift"
)

// evenRoads leads from each of these stations to each of those, at one cost.
func evenRoads(from, to string, car int) []api.Road {
	var l []api.Road
	for _, a := range from {
		for _, b := range to {
			l = append(l, road(string(a), string(b), car, 1))
		}
	}
	return l
}

// P7.2
func TestPlan(t *testing.T) {
	cases := []struct {
		what  string
		needs []api.Need
		roads []api.Road
		want  []api.Move
		cost  int
		e     api.Errno
	}{
		{"some", needs(), roads(), moves(), 12, api.OK},
		{"nothing", nil, nil, nil, 0, api.OK},
		{"no need", nil, roads(), nil, 0, api.OK},
		{"none too few", []api.Need{need("a", 3), need("b", 0)}, roads(), nil, 0, api.OK},
		{"the document's example", []api.Need{need("a", 2), need("b", 1), need("c", -2)}, []api.Road{road("a", "c", 5, 0), road("b", "c", 3, 0)},
			[]api.Move{move("a", "c", 1), move("b", "c", 1)}, 8, api.OK},
		{"none too many", []api.Need{need("a", 0), need("c", -1)}, roads(), nil, 0, api.ErrFull},
		{"one too few in all", []api.Need{need("a", 1), need("b", 1), need("c", -3)}, roads(), nil, 0, api.ErrFull},
		{"no roads", needs(), nil, nil, 0, api.ErrFull},
		{"only the way back", []api.Need{need("a", 1), need("c", -1)}, []api.Road{road("c", "a", 1, 1)}, nil, 0, api.ErrFull},
		{"no road to one of them", needs(), slices.Delete(slices.Delete(roads(), 4, 5), 2, 3), nil, 0, api.ErrFull},
		{"too few where the road begins", []api.Need{need("a", 1), need("b", 3), need("c", -2), need("d", -1)}, []api.Road{road("a", "c", 1, 1), road("b", "d", 1, 1)}, nil, 0, api.ErrFull},
		{"no way over another station", []api.Need{need("a", 1), need("b", 0), need("c", -1)}, []api.Road{road("a", "b", 1, 1), road("b", "c", 1, 1)}, nil, 0, api.ErrFull},
		{"at no cost", []api.Need{need("a", 2), need("c", -2)}, []api.Road{road("a", "c", 0, 9)}, []api.Move{move("a", "c", 2)}, 0, api.OK},
		{"a dear road that somebody else needs not", []api.Need{need("a", 1), need("b", 1), need("c", -1), need("d", -1)},
			[]api.Road{road("a", "c", 1, 0), road("a", "d", 5, 0), road("b", "c", 2, 0), road("b", "d", 9, 0)},
			[]api.Move{move("a", "d", 1), move("b", "c", 1)}, 7, api.OK},
		{"the first station of equal ones", []api.Need{need("a", 1), need("b", 1), need("c", -1)}, evenRoads("ab", "c", 4), []api.Move{move("a", "c", 1)}, 4, api.OK},
		{"a car of each station", []api.Need{need("a", 2), need("b", 1), need("c", -2)}, evenRoads("ab", "c", 4), []api.Move{move("a", "c", 1), move("b", "c", 1)}, 8, api.OK},
		{"the fewest, but some", []api.Need{need("a", 2), need("b", 2), need("c", -2), need("d", -2)}, evenRoads("ab", "cd", 1),
			[]api.Move{move("a", "c", 1), move("a", "d", 1), move("b", "c", 1), move("b", "d", 1)}, 4, api.OK},
		{"the fewest that are enough", []api.Need{need("a", 5), need("b", 1), need("c", -4)}, evenRoads("ab", "c", 1),
			[]api.Move{move("a", "c", 3), move("b", "c", 1)}, 4, api.OK},
	}
	for _, c := range cases {
		l, e := shift.Plan(c.needs, c.roads)
		same(t, c.what, l, c.want)
		is(t, c.what, e, c.e)
		if c.e != api.OK {
			prices, e := shift.Prove(c.needs, c.roads)
			same(t, c.what, prices, nil)
			is(t, c.what, e, c.e)
			continue
		}
		cents, e := shift.Cost(c.needs, c.roads, l)
		is(t, c.what, cents, c.cost)
		is(t, c.what, e, api.OK)
		proved(t, c.what, c.needs, c.roads, l)
	}
	inOrder(t, "Plan", func(v values) api.Errno { _, e := shift.Plan(v.needs, v.roads); return e }, badNeeds, badRoads)
}

// P7.2: Plan, against all plans; and Prove, which shows that none is cheaper.
func TestPlanAtRandom(t *testing.T) {
	r := rand.New(rand.NewSource(72))
	found, several := 0, 0
	for range 10_000 {
		needs, roads := someNeeds(r), someRoads(r, 6)
		plans, tried := plansOf(needs, roads)
		if tried > 100_000 {
			continue
		}
		l, e := shift.Plan(needs, roads)
		if len(plans) == 0 {
			is(t, "no plan", e, api.ErrFull)
			same(t, "no plan", l, nil)
			_, e = shift.Prove(needs, roads)
			is(t, "no proof", e, api.ErrFull)
			continue
		}
		found++
		best := plans[0]
		for _, p := range plans[1:] {
			more := costOf(roads, p) - costOf(roads, best)
			if more == 0 {
				several++
			}
			if more < 0 || more == 0 && slices.CompareFunc(p, best, compareMoves) < 0 {
				best = p
			}
		}
		same(t, "Plan", l, best)
		is(t, "Plan", e, api.OK)
		proved(t, "Prove", needs, roads, l)
	}
	if found < 2000 || several < 1500 {
		t.Errorf("only %d cases have plans, and only %d have another one at no more", found, several)
	}
}

// P7.2: with as many stations, cars and roads as there can be, plans are proved too.
func TestMostPlans(t *testing.T) {
	r := rand.New(rand.NewSource(73))
	count := 0
	for round := range 40 {
		var needs []api.Need
		var roads []api.Road
		costs := []int{1, 3, 100, api.MaxRate + 1}[round%4]
		for i := range api.MaxNeeds {
			few := api.MaxCars - r.Intn(3)*(round%3)
			needs = append(needs, need(key(i), []int{api.MaxCars, -few}[i%2]))
			for j := range api.MaxNeeds {
				if i != j && r.Intn(10) > round%5 {
					roads = append(roads, road(key(i), key(j), r.Intn(costs), 0))
				}
			}
		}
		l, e := shift.Plan(needs, roads)
		if e == api.ErrFull {
			_, e := shift.Prove(needs, roads)
			is(t, "no plan", e, api.ErrFull)
			continue
		}
		is(t, "most", e, api.OK)
		proved(t, "most", needs, roads, l)
		count++
	}
	if count < 20 {
		t.Errorf("only %d of these have plans", count)
	}
}
