package toll_test

import (
	"math/rand"
	"slices"
	"testing"

	"forecourt/api"
	"forecourt/toll"
)

// P6.1
func TestCheckGates(t *testing.T) {
	gate := func(key, area string, clock int) api.Gate { return api.Gate{Key: key, Area: area, Clock: clock} }
	some := func(count int) []api.Gate {
		return many(count, func(i int) api.Gate { return gate(key(i), "city", 0) })
	}
	runChecks(t, toll.CheckGates, []check[api.Gate]{
		{"none", nil, api.OK},
		{"some", gates(), api.OK},
		{"MaxGates", some(api.MaxGates), api.OK},
		{"more", some(api.MaxGates + 1), api.ErrLarge},
		{"large before all", append([]api.Gate{gate("", "", least)}, some(api.MaxGates)...), api.ErrLarge},
		{"longest names", []api.Gate{gate(longKey, longKey, 0)}, api.OK},
		{"no key", []api.Gate{gate("", "city", 0)}, api.ErrName},
		{"longer key", []api.Gate{gate(longerKey, "city", 0)}, api.ErrName},
		{"no area", []api.Gate{gate("g", "", 0)}, api.ErrName},
		{"longer area", []api.Gate{gate("g", longerKey, 0)}, api.ErrName},
		{"capital letter", []api.Gate{gate("g", "City", 0)}, api.ErrName},
		{"key before order", []api.Gate{gate("g", "city", 0), gate("G", "city", 0)}, api.ErrName},
		{"area before order", []api.Gate{gate("g", "city", 0), gate("f", "City", 0)}, api.ErrName},
		{"same key", []api.Gate{gate("g", "a", 0), gate("g", "b", 0)}, api.ErrOrder},
		{"lesser key", []api.Gate{gate("g", "a", 0), gate("f", "b", 0)}, api.ErrOrder},
		{"same area", []api.Gate{gate("f", "b", 0), gate("g", "b", 0)}, api.OK},
		{"lesser area", []api.Gate{gate("f", "b", 0), gate("g", "a", 0)}, api.OK},
		{"order before clock", []api.Gate{gate("g", "a", 0), gate("f", "b", 9999)}, api.ErrOrder},
		{"a day behind", []api.Gate{gate("g", "a", -api.DayLong)}, api.OK},
		{"more than a day behind", []api.Gate{gate("g", "a", -api.DayLong-1)}, api.ErrArg},
		{"a day ahead", []api.Gate{gate("g", "a", api.DayLong)}, api.OK},
		{"more than a day ahead", []api.Gate{gate("g", "a", api.DayLong+1)}, api.ErrArg},
		{"least", []api.Gate{gate("g", "a", least)}, api.ErrArg},
		{"greatest", []api.Gate{gate("g", "a", greatest)}, api.ErrArg},
		{"clock before the next one", []api.Gate{gate("g", "a", 9999), gate("", "", 0)}, api.ErrArg},
		{"name before the next one", []api.Gate{gate("", "a", 0), gate("g", "a", 9999)}, api.ErrName},
	})
}

// P6.1: what makes passages well formed.
var wellFormed = []check[api.Passage]{
	{"none", nil, api.OK},
	{"some", passages(), api.OK},
	{"MaxPassages", manyPassages(api.MaxPassages), api.OK},
	{"more", manyPassages(api.MaxPassages + 1), api.ErrLarge},
	{"large before all", append([]api.Passage{{At: -1}}, manyPassages(api.MaxPassages)...), api.ErrLarge},
	{"first moment", []api.Passage{pass(0, "g2", "AB1", 0)}, api.OK},
	{"before it", []api.Passage{pass(-1, "g2", "AB1", 0)}, api.ErrArg},
	{"last moment", []api.Passage{pass(api.End-1, "g2", "AB1", 0)}, api.OK},
	{"after it", []api.Passage{pass(api.End, "g2", "AB1", 0)}, api.ErrArg},
	{"least moment", []api.Passage{pass(least, "g2", "AB1", 0)}, api.ErrArg},
	{"greatest moment", []api.Passage{pass(greatest, "g2", "AB1", 0)}, api.ErrArg},
	{"moment before gate", []api.Passage{pass(-1, "G2", "ab", -1)}, api.ErrArg},
	{"no gate", []api.Passage{pass(5, "", "AB1", 0)}, api.ErrName},
	{"longer gate", []api.Passage{pass(5, longerKey, "AB1", 0)}, api.ErrName},
	{"gate before plate", []api.Passage{pass(5, "G2", "ab", -1)}, api.ErrName},
	{"no plate", []api.Passage{pass(5, "g2", "", 0)}, api.ErrForm},
	{"short plate", []api.Passage{pass(5, "g2", "A", 0)}, api.ErrForm},
	{"shortest plate", []api.Passage{pass(5, "g2", "A1", 0)}, api.OK},
	{"longest plate", []api.Passage{pass(5, "g2", "ABCDEFGHI1", 0)}, api.OK},
	{"long plate", []api.Passage{pass(5, "g2", "ABCDEFGHIJ1", 0)}, api.ErrForm},
	{"small letters", []api.Passage{pass(5, "g2", "Ab1", 0)}, api.ErrForm},
	{"plate before cents", []api.Passage{pass(5, "g2", "Ab1", -1)}, api.ErrForm},
	{"cents below 0", []api.Passage{pass(5, "g2", "AB1", -1)}, api.ErrArg},
	{"MaxRate", []api.Passage{pass(5, "g2", "AB1", api.MaxRate)}, api.OK},
	{"more cents", []api.Passage{pass(5, "g2", "AB1", api.MaxRate+1)}, api.ErrArg},
	{"least cents", []api.Passage{pass(5, "g2", "AB1", least)}, api.ErrArg},
	{"greatest cents", []api.Passage{pass(5, "g2", "AB1", greatest)}, api.ErrArg},
	{"cents before order", []api.Passage{pass(5, "g2", "AB1", 0), pass(4, "g2", "AB1", -1)}, api.ErrArg},
	{"the same", []api.Passage{pass(5, "g2", "AB1", 0), pass(5, "g2", "AB1", 0)}, api.ErrOrder},
	{"other cents", []api.Passage{pass(5, "g2", "AB1", 0), pass(5, "g2", "AB1", 1)}, api.ErrOrder},
	{"earlier", []api.Passage{pass(5, "g1", "AB1", 0), pass(4, "g2", "CD2", 1)}, api.ErrOrder},
	{"lesser gate", []api.Passage{pass(5, "g2", "AB1", 0), pass(5, "g1", "CD2", 1)}, api.ErrOrder},
	{"lesser plate", []api.Passage{pass(5, "g2", "AB1", 0), pass(5, "g2", "AB0", 1)}, api.ErrOrder},
	{"later", []api.Passage{pass(5, "g2", "CD2", 1), pass(6, "g1", "AB1", 0)}, api.OK},
	{"greater gate", []api.Passage{pass(5, "g1", "CD2", 1), pass(5, "g2", "AB1", 0)}, api.OK},
	{"greater plate", []api.Passage{pass(5, "g2", "AB1", 1), pass(5, "g2", "AB10", 0)}, api.OK},
	{"order before the next one", []api.Passage{pass(5, "g2", "AB1", 0), pass(5, "g2", "AB1", 0), {At: -1}}, api.ErrOrder},
}

// manyPassages has so many of them, at one gate.
func manyPassages(count int) []api.Passage {
	return many(count, func(i int) api.Passage { return pass(i, "g2", "AB1", 1) })
}

// P6.1
func TestCheck(t *testing.T) {
	ofGates := func(l []api.Passage) api.Errno { return toll.Check(gates(), l) }
	runChecks(t, ofGates, wellFormed)
	runChecks(t, ofGates, []check[api.Passage]{
		{"no such gate", []api.Passage{pass(5, "g4", "AB1", 0)}, api.ErrNone},
		{"a part of a gate", []api.Passage{pass(5, "g", "AB1", 0)}, api.ErrNone},
		{"form before gate", []api.Passage{pass(5, "g4", "AB1", 0), pass(5, "g4", "AB1", 0)}, api.ErrOrder},
		{"form before time", []api.Passage{pass(4, "g1", "AB1", 0), pass(5, "g1", "ab", 0)}, api.ErrForm},
		{"true time 0", []api.Passage{pass(5, "g1", "AB1", 0)}, api.OK},
		{"before 0", []api.Passage{pass(4, "g1", "AB1", 0)}, api.ErrRule},
		{"the last true time", []api.Passage{pass(api.End-61, "g3", "AB1", 0)}, api.OK},
		{"after it", []api.Passage{pass(api.End-60, "g3", "AB1", 0)}, api.ErrRule},
		{"gate before the next time", []api.Passage{pass(4, "g0", "AB1", 0), pass(4, "g1", "AB1", 0)}, api.ErrNone},
		{"time before the next gate", []api.Passage{pass(4, "g1", "AB1", 0), pass(4, "g4", "AB1", 0)}, api.ErrRule},
	})
	is(t, "without gates", toll.Check(nil, passages()), api.ErrNone)
	is(t, "without passages", toll.Check(nil, nil), api.OK)
	inOrder(t, "Check", func(v values) api.Errno { return toll.Check(v.gates, v.a) }, badGates, badPassages)
}

// P6.1
func TestTrue(t *testing.T) {
	cases := []struct {
		p  api.Passage
		at int
		e  api.Errno
	}{
		{pass(105, "g1", "AB1", 7), 100, api.OK},
		{pass(105, "g2", "AB1", 7), 105, api.OK},
		{pass(105, "g3", "AB1", 7), 165, api.OK},
		{pass(5, "g1", "AB1", 7), 0, api.OK},
		{pass(4, "g1", "AB1", 7), 0, api.ErrRule},
		{pass(api.End-61, "g3", "AB1", 7), api.End - 1, api.OK},
		{pass(api.End-60, "g3", "AB1", 7), 0, api.ErrRule},
		{pass(105, "g4", "AB1", 7), 0, api.ErrNone},
		{pass(105, "g4", "ab", 7), 0, api.ErrForm},
	}
	for _, c := range cases {
		at, e := toll.True(gates(), c.p)
		is(t, c.p.Gate, at, c.at)
		is(t, c.p.Gate, e, c.e)
	}
	inOrder(t, "True", func(v values) api.Errno { _, e := toll.True(v.gates, v.a[0]); return e }, badGates, badPassages)
}

// P6.1
func TestMerge(t *testing.T) {
	a, b, c, d := pass(10, "g1", "AB1", 5), pass(10, "g1", "CD2", 6), pass(10, "g2", "AB1", 7), pass(11, "g1", "AB1", 8)
	cheap := pass(10, "g2", "AB1", 6)
	cases := []struct {
		what       string
		a, b, want []api.Passage
		e          api.Errno
	}{
		{"nothing", nil, nil, nil, api.OK},
		{"the first list alone", []api.Passage{a, b}, nil, []api.Passage{a, b}, api.OK},
		{"the second list alone", nil, []api.Passage{a, b}, []api.Passage{a, b}, api.OK},
		{"by time", []api.Passage{d}, []api.Passage{c}, []api.Passage{c, d}, api.OK},
		{"by gate", []api.Passage{c}, []api.Passage{b}, []api.Passage{b, c}, api.OK},
		{"by plate", []api.Passage{b}, []api.Passage{a}, []api.Passage{a, b}, api.OK},
		{"by turns", []api.Passage{a, c}, []api.Passage{b, d}, []api.Passage{a, b, c, d}, api.OK},
		{"equal ones", []api.Passage{a, b, d}, []api.Passage{b, c, d}, []api.Passage{a, b, c, d}, api.OK},
		{"other cents", []api.Passage{a, c}, []api.Passage{cheap, d}, nil, api.ErrConflict},
		{"other cents in the second list", []api.Passage{cheap, d}, []api.Passage{a, c}, nil, api.ErrConflict},
	}
	for _, x := range cases {
		l, e := toll.Merge(gates(), x.a, x.b)
		same(t, x.what, l, x.want)
		is(t, x.what, e, x.e)
	}
}

// P6.1
func TestMergeErrors(t *testing.T) {
	inOrder(t, "Merge", func(v values) api.Errno { _, e := toll.Merge(v.gates, v.a, v.b); return e }, badGates, badPassages, badOthers)
	refused := func(what string, a, b []api.Passage, want api.Errno) {
		t.Helper()
		l, e := toll.Merge(gates(), a, b)
		same(t, what, l, nil)
		is(t, what, e, want)
	}
	none, rule := []api.Passage{pass(5, "g4", "AB1", 0)}, []api.Passage{pass(4, "g1", "AB1", 0)}
	refused("no such gate", none, rule, api.ErrNone)
	refused("a wrong time", rule, none, api.ErrRule)
	refused("the second list before a conflict", passages(), []api.Passage{pass(110, "g1", "AB1", 7), pass(110, "g1", "ab", 7)}, api.ErrForm)
	whole := manyPassages(api.MaxPassages)
	l, e := toll.Merge(gates(), whole[1:], whole[:5])
	same(t, "MaxPassages", l, whole)
	is(t, "MaxPassages", e, api.OK)
	l, e = toll.Merge(gates(), whole, whole)
	same(t, "equal ones count once", l, whole)
	is(t, "equal ones count once", e, api.OK)
	another := pass(0, "g1", "AB1", 1)
	another.At = 5000
	refused("more", whole, []api.Passage{another}, api.ErrLarge)
	refused("conflict before more", whole, []api.Passage{pass(7, "g2", "AB1", 2), another}, api.ErrConflict)
}

// P6.1: in whatever order lists are put together, the result is the same.
func TestMergeInAnyOrder(t *testing.T) {
	r := rand.New(rand.NewSource(31))
	for range 200 {
		gates, whole := someGates(r), somePassages(r, r.Intn(60))
		var parts [3][]api.Passage
		for _, p := range whole {
			n := r.Intn(3)
			parts[n] = append(parts[n], p)
			if r.Intn(4) == 0 {
				parts[(n+1)%3] = append(parts[(n+1)%3], p)
			}
		}
		for _, order := range [][3]int{{0, 1, 2}, {0, 2, 1}, {1, 0, 2}, {1, 2, 0}, {2, 0, 1}, {2, 1, 0}} {
			l, _ := toll.Merge(gates, parts[order[0]], parts[order[1]])
			l, e := toll.Merge(gates, l, parts[order[2]])
			same(t, "one by one", l, whole)
			is(t, "one by one", e, api.OK)
			l, _ = toll.Merge(gates, parts[order[1]], parts[order[2]])
			l, e = toll.Merge(gates, parts[order[0]], l)
			same(t, "the others first", l, whole)
			is(t, "the others first", e, api.OK)
		}
		if len(parts[0]) > 0 {
			spoilt := slices.Clone(parts[0])
			spoilt[r.Intn(len(spoilt))].Cents = 99
			l, e := toll.Merge(gates, whole, spoilt)
			same(t, "conflict", l, nil)
			is(t, "conflict", e, api.ErrConflict)
		}
	}
}
