package shift_test

import (
	"math/rand"
	"testing"

	"forecourt/api"
	"forecourt/shift"
)

// proved says that Prove has prices that prove a plan.
func proved(t *testing.T, what string, needs []api.Need, roads []api.Road, l []api.Move) {
	t.Helper()
	p, e := shift.Prove(needs, roads)
	is(t, what+", prices", e, api.OK)
	ok, e := shift.Proves(needs, roads, l, p)
	is(t, what+", proof", ok, true)
	is(t, what+", proof", e, api.OK)
	cents, e := shift.Cost(needs, roads, l)
	is(t, what+", cost", e, api.OK)
	bound, e := shift.Bound(needs, roads, p)
	is(t, what+", bound", bound, cents)
	is(t, what+", bound", e, api.OK)
}

// P7.2: what makes prices right.
func TestPrices(t *testing.T) {
	const most = 10 * api.MaxRate
	with := func(number, cents int) []api.Price {
		p := prices()
		p[number].Cents = cents
		return p
	}
	checks := []check[api.Price]{
		{"right", prices(), api.OK},
		{"none", nil, api.ErrForm},
		{"one less", prices()[:4], api.ErrForm},
		{"one more", append(prices(), price("f", 0)), api.ErrForm},
		{"the last one twice", append(prices(), price("e", 0)), api.ErrForm},
		{"another station", []api.Price{price("a", 0), price("b", 2), price("c", 5), price("d", 4), price("f", 7)}, api.ErrForm},
		{"another order", []api.Price{price("a", 0), price("c", 5), price("b", 2), price("d", 4), price("e", 7)}, api.ErrForm},
		{"no key", []api.Price{price("", 0), price("b", 2), price("c", 5), price("d", 4), price("e", 7)}, api.ErrForm},
		{"most", with(0, most), api.OK},
		{"more", with(0, most+1), api.ErrArg},
		{"least", with(4, -most), api.OK},
		{"less", with(4, -most-1), api.ErrArg},
		{"least int", with(2, least), api.ErrArg},
		{"greatest int", with(3, greatest), api.ErrArg},
		{"stations before cents", append(with(0, most+1)[:4], price("f", 0)), api.ErrForm},
	}
	runChecks(t, func(p []api.Price) api.Errno { _, e := shift.Bound(needs(), roads(), p); return e }, checks)
	runChecks(t, func(p []api.Price) api.Errno { _, e := shift.Proves(needs(), roads(), moves(), p); return e }, checks)
	_, e := shift.Bound(nil, nil, prices()[:1])
	is(t, "prices without needs", e, api.ErrForm)
}

// P7.2
func TestBound(t *testing.T) {
	two := func(a, b int) []api.Need { return []api.Need{need("a", a), need("b", b)} }
	both := func(a, b int) []api.Price { return []api.Price{price("a", a), price("b", b)} }
	at := []api.Road{road("a", "b", 5, 9), road("b", "a", 1, 9)}
	cases := []struct {
		what  string
		needs []api.Need
		roads []api.Road
		p     []api.Price
		want  int
	}{
		{"the document's example", []api.Need{need("a", 2), need("b", 1), need("c", -2)}, []api.Road{road("a", "c", 5, 0), road("b", "c", 3, 0)},
			[]api.Price{price("a", 0), price("b", 2), price("c", 5)}, 8},
		{"some", needs(), roads(), prices(), 12},
		{"nothing", nil, nil, nil, 0},
		{"no road", two(3, -2), nil, both(10, 100), 200 - 30},
		{"too few", two(0, -2), nil, both(10, 100), 200},
		{"too few, below 0", two(0, -2), nil, both(10, -100), -200},
		{"too many", two(3, 0), nil, both(10, 100), -30},
		{"too many, below 0", two(3, 0), nil, both(-10, 100), 0},
		{"a road that gains nothing", two(3, -2), at, both(10, 15), 30 - 30},
		{"a road that gains one", two(3, -2), at, both(10, 16), 32 - 30 - 2},
		{"a road that loses", two(3, -2), at, both(10, 14), 28 - 30},
		{"fewer are there", two(3, -4), at, both(10, 20), 80 - 30 - 15},
		{"gains from below 0", two(3, -4), at, both(-10, 0), 0 - 0 - 15},
		{"a road to a station with too many", two(3, 2), at, both(10, 100), -230},
		{"a road from a station with too few", two(-3, -2), at, both(10, 100), 230},
		{"a road to a station that needs none", two(3, 0), at, both(0, 100), 0},
		{"most", two(20, -20), at, both(-10*api.MaxRate, 10*api.MaxRate), 200*api.MaxRate - 20*(20*api.MaxRate-5)},
		{"least", two(20, -20), at, both(10*api.MaxRate, -10*api.MaxRate), -400 * api.MaxRate},
	}
	for _, c := range cases {
		bound, e := shift.Bound(c.needs, c.roads, c.p)
		is(t, c.what, bound, c.want)
		is(t, c.what, e, api.OK)
	}
	function := func(v values) api.Errno { _, e := shift.Bound(v.needs, v.roads, v.prices); return e }
	inOrder(t, "Bound", function, badNeeds, badRoads, badPrices)
	inOrder(t, "Bound", function, badRoads, badPrices, tooCheap)
}

// P7.2
func TestProves(t *testing.T) {
	proves := func(what string, l []api.Move, p []api.Price, want bool, e api.Errno) {
		t.Helper()
		ok, err := shift.Proves(needs(), roads(), l, p)
		is(t, what, ok, want)
		is(t, what, err, e)
	}
	proves("the cheapest plan", moves(), prices(), true, api.OK)
	proves("another plan", []api.Move{move("a", "c", 2), move("b", "d", 1)}, prices(), false, api.OK)
	lower := prices()
	lower[2].Cents = 4
	proves("lower prices", moves(), lower, false, api.OK)
	higher := prices()
	higher[2].Cents = 6
	proves("higher prices", moves(), higher, false, api.OK)
	proves("no plan", moves()[:2], prices(), false, api.ErrSum)
	function := func(v values) api.Errno { _, e := shift.Proves(v.needs, v.roads, v.moves, v.prices); return e }
	inOrder(t, "Proves", function, badNeeds, badRoads, badMoves, noPlan, badPrices)
	inOrder(t, "Proves", function, badNeeds, badRoads, noPlan, badPrices, tooCheap)
	runChecks(t, func(l []api.Move) api.Errno { _, e := shift.Proves(needs(), roads(), l, prices()); return e }, wrongForms())
}

// P7.2
func TestProve(t *testing.T) {
	inOrder(t, "Prove", func(v values) api.Errno { _, e := shift.Prove(v.needs, v.roads); return e }, badNeeds, badRoads)
	// Cars of x are needed nowhere, and those of y cannot be brought anywhere.
	idle := []api.Need{need("a", 1), need("c", -1), need("x", 5), need("y", 5)}
	l, e := shift.Plan(idle, []api.Road{road("a", "c", 9, 0), road("x", "c", 10, 0)})
	same(t, "idle cars", l, []api.Move{move("a", "c", 1)})
	is(t, "idle cars", e, api.OK)
	proved(t, "idle cars", idle, []api.Road{road("a", "c", 9, 0), road("x", "c", 10, 0)}, l)
	// Each station but the last one has to give its car to one that is near another one: prices add up on this chain.
	var chain []api.Need
	var dear []api.Road
	for i := range api.MaxNeeds {
		chain = append(chain, need(key(i), 1-i%2*2))
		for j := range api.MaxNeeds {
			if i%2 == 0 && j%2 == 1 && (j == i+1 || j == i-1) {
				dear = append(dear, road(key(i), key(j), []int{0, api.MaxRate}[max(0, j-i)], 0))
			}
		}
	}
	l, e = shift.Plan(chain, dear)
	is(t, "a chain", e, api.OK)
	proved(t, "a chain", chain, dear, l)
}

// boundOf adds up a bound station by station, and pair by pair.
func boundOf(needs []api.Need, roads []api.Road, p []api.Price) int {
	bound := 0
	for i, a := range needs {
		if a.Many < 0 {
			bound += p[i].Cents * -a.Many
			continue
		}
		if p[i].Cents > 0 {
			bound -= p[i].Cents * a.Many
		}
		for j, b := range needs {
			for _, r := range roads {
				if gain := p[j].Cents - p[i].Cents - r.Car; r.A == a.Station && r.B == b.Station && b.Many < 0 && gain > 0 {
					bound -= gain * min(a.Many, -b.Many)
				}
			}
		}
	}
	return bound
}

// P7.2: no plan has a cost below the bound of any prices, and one that prices prove is a cheapest one.
func TestBoundAtRandom(t *testing.T) {
	r := rand.New(rand.NewSource(74))
	tight, loose := 0, 0
	for range 4000 {
		needs, roads := someNeeds(r), someRoads(r, 6)
		p, e := shift.Prove(needs, roads)
		if e != api.OK {
			p = many(len(needs), func(i int) api.Price { return price(needs[i].Station, 0) })
		}
		for range 5 {
			bound, err := shift.Bound(needs, roads, p)
			is(t, "Bound", bound, boundOf(needs, roads, p))
			is(t, "Bound", err, api.OK)
			if e == api.OK {
				l, _ := shift.Plan(needs, roads)
				cents := costOf(roads, l)
				is(t, "above the cheapest plan", bound > cents, false)
				ok, err := shift.Proves(needs, roads, l, p)
				is(t, "Proves", ok, bound == cents)
				is(t, "Proves", err, api.OK)
				if ok {
					tight++
				} else {
					loose++
				}
			}
			if len(p) > 0 {
				p[r.Intn(len(p))].Cents += r.Intn(7) - 3
			}
		}
	}
	if tight < 1000 || loose < 1000 {
		t.Errorf("only %d proofs, and %d prices that are none", tight, loose)
	}
}
