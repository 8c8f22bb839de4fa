package mark_test

import (
	"math/rand"
	"slices"
	"testing"

	"forecourt/api"
	"forecourt/mark"
)

// P5.3
func TestGroups(t *testing.T) {
	cases := []struct {
		what string
		join int
		l    []api.Mark
		want [][]int
	}{
		{"none", 100, nil, nil},
		{"one", 100, []api.Mark{put("door", dent, 1, 1, 1)}, [][]int{{0}}},
		{"at a distance of 100 * 100", 100, []api.Mark{put("door", dent, 0, 0, 1), put("door", dent, 60, 80, 1)}, [][]int{{0, 1}}},
		{"farther", 100, []api.Mark{put("door", dent, 0, 0, 1), put("door", dent, 61, 80, 1)}, [][]int{{0}, {1}}},
		{"another kind", 100, []api.Mark{put("door", dent, 60, 80, 1), put("door", chip, 0, 0, 1)}, [][]int{{0, 1}}},
		{"another panel", 100, []api.Mark{put("door", dent, 1, 1, 1), put("hood", dent, 1, 1, 1)}, [][]int{{0}, {1}}},
		{"from one to the next one", 10, []api.Mark{put("door", dent, 0, 0, 1), put("door", dent, 10, 0, 1), put("door", dent, 20, 0, 1), put("door", dent, 31, 0, 1)}, [][]int{{0, 1, 2}, {3}}},
		{"one that joins two", 10, []api.Mark{put("door", scratch, 0, 0, 1), put("door", scratch, 20, 0, 1), put("door", dent, 10, 0, 1)}, [][]int{{0, 1, 2}}},
		{"groups that are mixed", 5, []api.Mark{put("door", scratch, 0, 0, 1), put("door", scratch, 50, 0, 1), put("door", dent, 0, 5, 1), put("door", dent, 50, 5, 1)}, [][]int{{0, 2}, {1, 3}}},
		{"back to an earlier one", 10, []api.Mark{put("door", scratch, 0, 0, 1), put("door", scratch, 18, 0, 1), put("door", dent, 9, 0, 1), put("door", dent, 27, 0, 1)}, [][]int{{0, 1, 2, 3}}},
		{"Join 0", 0, []api.Mark{put("door", scratch, 7, 7, 1), put("door", scratch, 7, 7, 2), put("door", scratch, 7, 8, 1), put("door", crack, 7, 7, 1)}, [][]int{{0, 1, 3}, {2}}},
	}
	for _, c := range cases {
		groups, e := mark.Groups(panels(), api.Rules{Join: c.join}, c.l)
		sameLists(t, c.what, groups, c.want)
		is(t, c.what, e, api.OK)
	}
	p, l := most(0)
	groups, e := mark.Groups(p, api.Rules{Join: api.MaxSide}, l)
	is(t, "most", e, api.OK)
	is(t, "most", len(groups), len(p))
}

// groupsOf joins the groups of marks until no two marks of different ones are joined.
func groupsOf(r api.Rules, l []api.Mark) [][]int {
	group := many(len(l), func(i int) int { return i })
	for changed := true; changed; {
		changed = false
		for i, a := range l {
			for j, b := range l {
				if a.Panel == b.Panel && distance(a, b) <= r.Join*r.Join && group[j] > group[i] {
					group[j], changed = group[i], true
				}
			}
		}
	}
	var groups [][]int
	for first := range l {
		var g []int
		for i := range l {
			if group[i] == first {
				g = append(g, i)
			}
		}
		if g != nil {
			groups = append(groups, g)
		}
	}
	return groups
}

// costs are repairs; cracks cost nothing.
func costs() []api.Repair {
	return []api.Repair{{Kind: scratch, From: 1, Cents: 1000}, {Kind: scratch, From: 50, Cents: 3000}, {Kind: dent, From: 5, Cents: 777}, {Kind: dent, From: 9, Cents: 200}, {Kind: chip, From: 1, Cents: 3}}
}

// badRepairs have an error that no other argument of these tests leads to.
func badRepairs() []api.Repair { return []api.Repair{costs()[0], costs()[0]} }

const badRepairsError = api.ErrOrder

// P5.3
func TestCheckRepairs(t *testing.T) {
	numbered := func(i int) api.Repair { return api.Repair{Kind: dent, From: i + 1} }
	one := func(kind, from, cents int) []api.Repair {
		return []api.Repair{{Kind: kind, From: from, Cents: cents}}
	}
	runChecks(t, mark.CheckRepairs, []check[api.Repair]{
		{"none", nil, api.OK},
		{"ordinary", costs(), api.OK},
		{"MaxRepairs", many(api.MaxRepairs, numbered), api.OK},
		{"more", many(api.MaxRepairs+1, numbered), api.ErrLarge},
		{"large before kind", make([]api.Repair, api.MaxRepairs+1), api.ErrLarge},
		{"least", one(scratch, 1, 0), api.OK},
		{"greatest", one(crack, api.MaxSize, api.MaxRate), api.OK},
		{"kind 0", one(0, 1, 1), api.ErrKind},
		{"kind 5", one(5, 1, 1), api.ErrKind},
		{"least kind", one(least, 1, 1), api.ErrKind},
		{"kind before numbers", one(0, 0, -1), api.ErrKind},
		{"From below", one(dent, 0, 1), api.ErrArg},
		{"From above", one(dent, api.MaxSize+1, 1), api.ErrArg},
		{"greatest From", one(dent, greatest, 1), api.ErrArg},
		{"Cents below", one(dent, 1, -1), api.ErrArg},
		{"Cents above", one(dent, 1, api.MaxRate+1), api.ErrArg},
		{"least Cents", one(dent, 1, least), api.ErrArg},
		{"numbers before order", append(one(dent, 5, 1), one(scratch, 5, -1)...), api.ErrArg},
		{"the same", badRepairs(), badRepairsError},
		{"the same, for other Cents", append(one(dent, 5, 1), one(dent, 5, 2)...), api.ErrOrder},
		{"lesser Kind", append(one(dent, 5, 1), one(scratch, 6, 1)...), api.ErrOrder},
		{"greater Kind", append(one(dent, 5, 1), one(chip, 4, 1)...), api.OK},
		{"lesser From", append(one(dent, 5, 1), one(dent, 4, 1)...), api.ErrOrder},
		{"greater From", append(one(dent, 5, 1), one(dent, 6, 1)...), api.OK},
		{"order before the next one", append(badRepairs(), api.Repair{}), api.ErrOrder},
	})
}

// P5.3
func TestPrice(t *testing.T) {
	cases := []struct {
		kind, size int
		want       int
	}{
		{scratch, 1, 1000},
		{scratch, 49, 1000},
		{scratch, 50, 3000},
		{scratch, api.MaxSize, 3000},
		{dent, 4, 0},
		{dent, 5, 777},
		{dent, 8, 777},
		{dent, 9, 200},
		{chip, 1, 3},
		{crack, api.MaxSize, 0},
	}
	for _, c := range cases {
		n, e := mark.Price(costs(), put("any", c.kind, api.MaxSide, 0, c.size))
		is(t, "price", n, c.want)
		is(t, "price", e, api.OK)
	}
	n, e := mark.Price(nil, older()[0])
	is(t, "no repairs", n, 0)
	is(t, "no repairs", e, api.OK)
	for _, c := range wellFormed() {
		if len(c.l) == 1 {
			n, e := mark.Price(nil, c.l[0])
			is(t, c.what, n, 0)
			is(t, c.what, e, c.want)
		}
	}
	n, e = mark.Price(badRepairs(), badMarks()[0])
	is(t, "repairs first", n, 0)
	is(t, "repairs first", e, badRepairsError)
}

// P5.3
func TestEstimate(t *testing.T) {
	cases := []struct {
		what string
		part int
		l    []api.Mark
		want []int
		sum  int
	}{
		{"none", 500, nil, []int{0, 0, 0}, 0},
		{"one", 500, []api.Mark{put("door", scratch, 0, 0, 5)}, []int{1000, 0, 0}, 1000},
		{"two of one group", 500, []api.Mark{put("door", scratch, 0, 0, 5), put("door", scratch, 9, 0, 50)}, []int{3500, 0, 0}, 3500},
		{"the dearest one first", 500, []api.Mark{put("door", scratch, 0, 0, 50), put("door", scratch, 9, 0, 5)}, []int{3500, 0, 0}, 3500},
		{"two that are the dearest", 100, []api.Mark{put("door", scratch, 0, 0, 50), put("door", scratch, 9, 0, 50)}, []int{3300, 0, 0}, 3300},
		{"two of two groups", 500, []api.Mark{put("door", scratch, 0, 0, 5), put("door", scratch, 101, 0, 5)}, []int{2000, 0, 0}, 2000},
		{"at most the price", 500, []api.Mark{put("door", scratch, 0, 0, 50), put("door", scratch, 101, 0, 50), put("hood", scratch, 0, 0, 50)}, []int{5000, 3000, 0}, 8000},
		{"two panels", 500, []api.Mark{put("door", scratch, 0, 0, 50), put("hood", scratch, 0, 0, 50), put("hood", dent, 5, 0, 5)}, []int{3000, 3388, 0}, 6388},
		{"the sum is rounded down, not each one", 500, []api.Mark{put("roof", chip, 0, 0, 1), put("roof", chip, 1, 0, 1), put("roof", chip, 2, 0, 1)}, []int{0, 0, 6}, 6},
		{"rounded down", 999, []api.Mark{put("roof", chip, 0, 0, 1), put("roof", chip, 1, 0, 1)}, []int{0, 0, 5}, 5},
		{"Part 0", 0, []api.Mark{put("hood", scratch, 0, 0, 5), put("hood", scratch, 9, 0, 50)}, []int{0, 3000, 0}, 3000},
		{"Part 1000", 1000, []api.Mark{put("hood", scratch, 0, 0, 5), put("hood", scratch, 9, 0, 50)}, []int{0, 4000, 0}, 4000},
		{"costs nothing", 1000, []api.Mark{put("hood", dent, 0, 0, 4), put("hood", crack, 9, 0, 50)}, []int{0, 0, 0}, 0},
	}
	for _, c := range cases {
		l, n, e := mark.Estimate(panels(), api.Rules{Join: 100, Part: c.part}, costs(), c.l)
		same(t, c.what, l, c.want)
		is(t, c.what, n, c.sum)
		is(t, c.what, e, api.OK)
	}
	l, n, e := mark.Estimate(nil, rules(), costs(), nil)
	same(t, "no panels", l, nil)
	is(t, "no panels", n, 0)
	is(t, "no panels", e, api.OK)
}

// P5.3: the greatest prices.
func TestEstimateMost(t *testing.T) {
	p, marks := most(0)
	dear := many(4, func(i int) api.Repair { return api.Repair{Kind: i + 1, From: 1, Cents: api.MaxRate} })
	for i := range p {
		p[i].Price = api.MaxRate
	}
	l, n, e := mark.Estimate(p, api.Rules{Join: api.MaxSide, Part: 1000}, dear, marks)
	same(t, "most", l, []int{api.MaxRate, api.MaxRate, api.MaxRate})
	is(t, "most", n, 3*api.MaxRate)
	is(t, "most", e, api.OK)
}

// P5.3
func TestEstimateErrors(t *testing.T) {
	call := func(p []api.Panel, r api.Rules, c []api.Repair, m []api.Mark) api.Errno {
		l, n, e := mark.Estimate(p, r, c, m)
		same(t, "none", l, nil)
		is(t, "none", n, 0)
		return e
	}
	is(t, "rules", call(badPanels(), badRules(), badRepairs(), badMarks()), badRulesError)
	is(t, "repairs", call(badPanels(), rules(), badRepairs(), badMarks()), badRepairsError)
	is(t, "panels", call(badPanels(), rules(), costs(), badMarks()), badPanelsError)
	is(t, "marks", call(panels(), rules(), costs(), badMarks()), badMarksError)
	is(t, "full", call(panels(), rules(), costs(), fullMarks()), fullMarksError)
}

// P5.3: groups and what they cost, against what the document says.
func TestRepairsAtRandom(t *testing.T) {
	r := rand.New(rand.NewSource(22))
	for range 3000 {
		rules, l := someRules(r), someMarks(r, r.Intn(14))
		mustCheck(t, somePanels(), l)
		var dear []api.Repair
		for kind := scratch; kind <= dent; kind++ {
			for from := 1 + r.Intn(3); from < 6; from += 1 + r.Intn(3) {
				dear = append(dear, api.Repair{Kind: kind, From: from, Cents: r.Intn(40)})
			}
		}
		groups, e := mark.Groups(somePanels(), rules, l)
		sameLists(t, "groups", groups, groupsOf(rules, l))
		is(t, "groups", e, api.OK)
		want, sum := make([]int, 2), 0
		for _, g := range groupsOf(rules, l) {
			var prices []int
			for _, i := range g {
				p, _ := mark.Price(dear, l[i])
				prices = append(prices, p)
			}
			slices.Sort(prices)
			others := 0
			for _, p := range prices[:len(prices)-1] {
				others += p
			}
			want[slices.IndexFunc(somePanels(), func(p api.Panel) bool { return p.Key == l[g[0]].Panel })] += prices[len(prices)-1] + others*rules.Part/1000
		}
		for i, p := range somePanels() {
			want[i] = min(want[i], p.Price)
			sum += want[i]
		}
		got, n, e := mark.Estimate(somePanels(), rules, dear, l)
		same(t, "estimate", got, want)
		is(t, "estimate", n, sum)
		is(t, "estimate", e, api.OK)
	}
}
