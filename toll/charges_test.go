package toll_test

import (
	"cmp"
	"fmt"
	"math/rand"
	"slices"
	"testing"

	"forecourt/api"
	"forecourt/toll"
)

// P6.2
func TestCheckRules(t *testing.T) {
	cases := []struct {
		double, cap, fee int
		want             api.Errno
	}{
		{0, -1, 0, api.OK},
		{0, 0, 0, api.OK},
		{api.DayLong, api.MaxRate, api.MaxRate, api.OK},
		{-1, 0, 0, api.ErrArg},
		{api.DayLong + 1, 0, 0, api.ErrArg},
		{least, 0, 0, api.ErrArg},
		{greatest, 0, 0, api.ErrArg},
		{0, -2, 0, api.ErrArg},
		{0, api.MaxRate + 1, 0, api.ErrArg},
		{0, least, 0, api.ErrArg},
		{0, greatest, 0, api.ErrArg},
		{0, 0, -1, api.ErrArg},
		{0, 0, api.MaxRate + 1, api.ErrArg},
		{0, 0, least, api.ErrArg},
		{0, 0, greatest, api.ErrArg},
	}
	for _, c := range cases {
		is(t, fmt.Sprint(c), toll.CheckRules(api.TollRules{Double: c.double, Cap: c.cap, Fee: c.fee}), c.want)
	}
}

// P6.2
func TestDoubles(t *testing.T) {
	at := func(moments ...int) []api.Passage {
		return many(len(moments), func(i int) api.Passage { return pass(moments[i], "g2", "AB1", 1) })
	}
	cases := []struct {
		what   string
		double int
		l      []api.Passage
		want   []int
	}{
		{"none", 10, nil, nil},
		{"one", 10, at(0), nil},
		{"of the document", 10, at(0, 6, 12, 20), []int{1, 3}},
		{"a minute less", 10, at(50, 59), []int{1}},
		{"just as much", 10, at(50, 60), nil},
		{"all of a row", 10, at(50, 51, 52, 59), []int{1, 2, 3}},
		{"a double does not count", 10, at(50, 59, 60, 69, 70), []int{1, 3}},
		{"Double 0", 0, at(50, 51), nil},
		{"Double 1", 1, at(50, 51), nil},
		{"Double 2", 2, at(50, 51, 52), []int{1}},
		{"a day", api.DayLong, at(50, 49+api.DayLong, 50+api.DayLong), []int{1}},
		{"other gates", 10, []api.Passage{pass(10, "g1", "AB1", 1), pass(10, "g2", "AB1", 1), pass(11, "g3", "AB1", 1)}, nil},
		{"other plates", 10, []api.Passage{pass(10, "g1", "AB1", 1), pass(10, "g1", "AB2", 1), pass(11, "g1", "AB3", 1)}, nil},
		{"by turns", 10, []api.Passage{pass(10, "g1", "AB1", 1), pass(11, "g2", "AB1", 1), pass(12, "g1", "CD2", 1), pass(13, "g1", "AB1", 1), pass(20, "g1", "AB1", 1), pass(20, "g2", "AB1", 1), pass(21, "g1", "CD2", 1)}, []int{3, 5, 6}},
		{"other cents", 10, []api.Passage{pass(10, "g1", "AB1", 1), pass(11, "g1", "AB1", 2)}, []int{1}},
		{"plates that nobody has", 10, []api.Passage{pass(10, "g1", "ZZ9", 1), pass(11, "g1", "ZZ9", 1)}, []int{1}},
		// The gate and the plate are told apart.
		{"names put together", 10, []api.Passage{pass(10, "g1", "1AB1", 1), pass(11, "g11", "AB1", 1)}, nil},
	}
	more := append(gates()[:1:1], api.Gate{Key: "g11", Area: "city"})
	more = append(more, gates()[1:]...)
	for _, c := range cases {
		l, e := toll.Doubles(more, api.TollRules{Double: c.double, Cap: -1}, c.l)
		same(t, c.what, l, c.want)
		is(t, c.what, e, api.OK)
	}
	inOrder(t, "Doubles", func(v values) api.Errno { _, e := toll.Doubles(v.gates, v.rules, v.a); return e }, badRules, badGates, badPassages)
	l, e := toll.Doubles(gates(), rules(), []api.Passage{pass(1, "g1", "AB1", 1), pass(2, "g1", "AB1", 1)})
	same(t, "before 0", l, nil)
	is(t, "before 0", e, api.ErrRule)
}

// doublesByWords asks, for each passage, those before it.
func doublesByWords(r api.TollRules, l []api.Passage) []int {
	var doubles []int
	for i, p := range l {
		for j := i - 1; j >= 0; j-- {
			if l[j].Gate != p.Gate || l[j].Plate != p.Plate || slices.Contains(doubles, j) {
				continue
			}
			if p.At-l[j].At < r.Double {
				doubles = append(doubles, i)
			}
			break
		}
	}
	return doubles
}

// P6.2
func TestDoublesAtRandom(t *testing.T) {
	r := rand.New(rand.NewSource(32))
	count := 0
	for range 500 {
		rules, l := someRules(r), somePassages(r, r.Intn(60))
		doubles, e := toll.Doubles(someGates(r), rules, l)
		same(t, "doubles", doubles, doublesByWords(rules, l))
		is(t, "doubles", e, api.OK)
		count += len(doubles)
	}
	if count < 1000 {
		t.Errorf("only %d doubles", count)
	}
}

// P6.3
func TestCharges(t *testing.T) {
	// The clock of g1 is 5 minutes ahead: 105 is the begin of h1, and 305 its end with v1.
	const day = api.DayLong
	cases := []struct {
		what string
		r    api.TollRules
		l    []api.Passage
		want []api.Charge
	}{
		{"none", rules(), nil, nil},
		{"begin and end of a leg", api.TollRules{Cap: -1},
			[]api.Passage{pass(104, "g1", "AB1", 1), pass(105, "g1", "AB1", 2), pass(304, "g1", "AB1", 3), pass(305, "g1", "AB1", 4)},
			[]api.Charge{charge(0, "", "v1", 1), charge(1, "h1", "v1", 2), charge(2, "h1", "v1", 3), charge(3, "", "v1", 4)}},
		{"a plate that changes", api.TollRules{Cap: -1},
			[]api.Passage{pass(499, "g2", "AB1", 1), pass(499, "g2", "CD2", 2), pass(500, "g2", "AB1", 3), pass(500, "g2", "CD2", 4), pass(740, "g3", "CD2", 5)},
			[]api.Charge{charge(0, "", "v1", 1), charge(1, "h1", "v2", 2), charge(2, "h1", "v2", 3), charge(3, "", "", 4), charge(4, "", "v1", 5)}},
		{"the least hire", api.TollRules{Cap: -1},
			[]api.Passage{pass(599, "g2", "AB1", 1), pass(649, "g2", "AB1", 2), pass(650, "g2", "AB1", 3), pass(660, "g2", "AB1", 4)},
			[]api.Charge{charge(0, "h1", "v2", 1), charge(1, "h2", "v2", 2), charge(2, "g1", "v2", 3), charge(3, "h2", "v2", 4)}},
		{"no hire, no cap", api.TollRules{Cap: 10},
			[]api.Passage{pass(10, "g2", "EF3", 60), pass(20, "g2", "EF3", 70), pass(30, "g2", "ZZ9", 80), pass(40, "g2", "ZZ9", 90)},
			[]api.Charge{charge(0, "", "v3", 60), charge(1, "", "v3", 70), charge(2, "", "", 80), charge(3, "", "", 90)}},
		{"doubles cost nothing", api.TollRules{Double: 10, Cap: 100},
			[]api.Passage{pass(110, "g2", "AB1", 60), pass(119, "g2", "AB1", 60), pass(120, "g2", "AB1", 30), pass(129, "g2", "AB1", 60), pass(130, "g2", "AB1", 60)},
			[]api.Charge{charge(0, "h1", "v1", 60), charge(2, "h1", "v1", 30), charge(4, "h1", "v1", 10)}},
		{"without a cap", api.TollRules{Cap: -1},
			[]api.Passage{pass(110, "g2", "AB1", api.MaxRate), pass(120, "g2", "AB1", api.MaxRate)},
			[]api.Charge{charge(0, "h1", "v1", api.MaxRate), charge(1, "h1", "v1", api.MaxRate)}},
		{"a cap of 0", api.TollRules{Cap: 0},
			[]api.Passage{pass(10, "g2", "AB1", 5), pass(110, "g2", "AB1", 5)},
			[]api.Charge{charge(0, "", "v1", 5), charge(1, "h1", "v1", 0)}},
		{"what is left of the cap", api.TollRules{Cap: 100},
			[]api.Passage{pass(110, "g1", "AB1", 60), pass(120, "g2", "AB1", 50), pass(130, "g2", "AB1", 5), pass(140, "g2", "AB1", 0)},
			[]api.Charge{charge(0, "h1", "v1", 60), charge(1, "h1", "v1", 40), charge(2, "h1", "v1", 0), charge(3, "h1", "v1", 0)}},
		{"just the cap", api.TollRules{Cap: 100},
			[]api.Passage{pass(110, "g2", "AB1", 60), pass(120, "g2", "AB1", 40), pass(130, "g2", "AB1", 1)},
			[]api.Charge{charge(0, "h1", "v1", 60), charge(1, "h1", "v1", 40), charge(2, "h1", "v1", 0)}},
		{"another area", api.TollRules{Cap: 100},
			[]api.Passage{pass(110, "g2", "AB1", 80), pass(120, "g2", "AB1", 80), pass(130, "g3", "AB1", 80), pass(140, "g3", "AB1", 80)},
			[]api.Charge{charge(0, "h1", "v1", 80), charge(1, "h1", "v1", 20), charge(2, "h1", "v1", 80), charge(3, "h1", "v1", 20)}},
		{"two vehicles of a hire", api.TollRules{Cap: 100},
			[]api.Passage{pass(299, "g2", "AB1", 80), pass(300, "g2", "CD2", 80)},
			[]api.Charge{charge(0, "h1", "v1", 80), charge(1, "h1", "v2", 20)}},
		{"another hire with the vehicle", api.TollRules{Cap: 100},
			[]api.Passage{pass(599, "g2", "AB1", 80), pass(600, "g2", "AB1", 80), pass(601, "g2", "AB1", 80)},
			[]api.Charge{charge(0, "h1", "v2", 80), charge(1, "h2", "v2", 80), charge(2, "h2", "v2", 20)}},
		// By their clocks, two are on the first day, or on the second one.
		{"days of true times", api.TollRules{Cap: 100},
			[]api.Passage{pass(day-61, "g3", "AB1", 80), pass(day-60, "g3", "AB1", 80), pass(day-1, "g2", "AB1", 80), pass(day, "g2", "AB1", 80), pass(day+4, "g1", "AB1", 80), pass(day+5, "g1", "AB1", 80)},
			[]api.Charge{charge(0, "h2", "v2", 80), charge(1, "h2", "v2", 80), charge(2, "h2", "v2", 80), charge(3, "h2", "v2", 80), charge(4, "h2", "v2", 20), charge(5, "h2", "v2", 20)}},
		// The first one was there last, and the others at one moment.
		{"the order of true times", api.TollRules{Cap: 100},
			[]api.Passage{pass(750, "g4", "AB1", 70), pass(755, "g2", "AB1", 70), pass(760, "g1", "AB1", 70)},
			[]api.Charge{charge(0, "h2", "v2", 0), charge(1, "h2", "v2", 70), charge(2, "h2", "v2", 30)}},
	}
	more := append(gates(), api.Gate{Key: "g4", Area: "city", Clock: -6})
	for _, c := range cases {
		l, e := toll.Charges(fleet(), hires(), more, c.r, c.l)
		same(t, c.what, l, c.want)
		is(t, c.what, e, api.OK)
	}
}

// P6.3
func TestChargesErrors(t *testing.T) {
	inOrder(t, "Charges", func(v values) api.Errno {
		_, e := toll.Charges(v.fleet, v.hires, v.gates, v.rules, v.a)
		return e
	}, badFleet, badHires, badRules, badGates, badPassages)
	l, e := toll.Charges(fleet(), hires(), gates(), rules(), []api.Passage{pass(110, "g9", "AB1", 1)})
	same(t, "no such gate", l, nil)
	is(t, "no such gate", e, api.ErrNone)
	l, e = toll.Charges(fleet(), hires(), gates(), rules(), []api.Passage{pass(4, "g1", "AB1", 1)})
	same(t, "before 0", l, nil)
	is(t, "before 0", e, api.ErrRule)
}

// chargesByWords has the owner of each passage, and then goes through those of each hire, area and day.
func chargesByWords(t *testing.T, f api.Fleet, hires []api.Hire, gates []api.Gate, r api.TollRules, l []api.Passage) []api.Charge {
	t.Helper()
	doubles := doublesByWords(r, l)
	var charges []api.Charge
	groups := map[string][]int{}
	passed := func(c api.Charge) int {
		at, e := toll.True(gates, l[c.Passage])
		is(t, "True", e, api.OK)
		return at
	}
	for i, p := range l {
		if slices.Contains(doubles, i) {
			continue
		}
		c := charge(i, "", "", p.Cents)
		c.Vehicle, c.Hire = ownerOf(t, f, hires, p.Plate, passed(c))
		if c.Hire != "" {
			gate := gates[slices.IndexFunc(gates, func(g api.Gate) bool { return g.Key == p.Gate })]
			group := fmt.Sprint(c.Hire, " ", gate.Area, " ", passed(c)/api.DayLong)
			groups[group] = append(groups[group], len(charges))
		}
		charges = append(charges, c)
	}
	if r.Cap == -1 {
		return charges
	}
	for _, group := range groups {
		slices.SortFunc(group, func(i, j int) int {
			return cmp.Or(cmp.Compare(passed(charges[i]), passed(charges[j])), cmp.Compare(i, j))
		})
		left := r.Cap
		for _, i := range group {
			charges[i].Cents = min(charges[i].Cents, left)
			left -= charges[i].Cents
		}
	}
	return charges
}

// P6.3: charges, and what follows: each passage is charged once, or is a double; a cap holds.
func TestChargesAtRandom(t *testing.T) {
	r := rand.New(rand.NewSource(33))
	of := map[bool]int{}
	for range 400 {
		f, hires, gates, rules, l := someFleet(r), someHires(r), someGates(r), someRules(r), somePassages(r, r.Intn(60))
		mustCheck(t, gates, l)
		charges, e := toll.Charges(f, hires, gates, rules, l)
		is(t, "charges", e, api.OK)
		same(t, "charges", charges, chargesByWords(t, f, hires, gates, rules, l))
		doubles, _ := toll.Doubles(gates, rules, l)
		is(t, "all", len(charges)+len(doubles), len(l))
		for _, c := range charges {
			is(t, "once", slices.Contains(doubles, c.Passage), false)
			of[c.Hire != ""]++
		}
	}
	if of[true] < 1000 || of[false] < 1000 {
		t.Errorf("only %d charges of hires, %d of the office", of[true], of[false])
	}
}

// P6.3
func TestLines(t *testing.T) {
	l := []api.Charge{charge(0, "h1", "v1", 30), charge(1, "", "v1", 500), charge(4, "h2", "v2", 8), charge(5, "h1", "v2", 70), charge(9, "h3", "v1", 0), charge(10, "", "", 600)}
	row := func(key string, cents int) api.Line { return api.Line{Kind: api.LineOther, Key: key, Cents: cents} }
	cases := []struct {
		what string
		fee  int
		hire string
		want []api.Line
	}{
		{"several charges", 9, "h1", []api.Line{row("toll", 100), row("tollfee", 9)}},
		{"one charge", 9, "h2", []api.Line{row("toll", 8), row("tollfee", 9)}},
		{"the least fee", 1, "h2", []api.Line{row("toll", 8), row("tollfee", 1)}},
		{"without a fee", 0, "h1", []api.Line{row("toll", 100)}},
		{"charges of 0", 9, "h3", nil},
		{"no charges", 9, "h4", nil},
		{"a part of a key", 9, "h", nil},
	}
	for _, c := range cases {
		lines, e := toll.Lines(api.TollRules{Fee: c.fee}, l, c.hire)
		same(t, c.what, lines, c.want)
		is(t, c.what, e, api.OK)
	}
	lines, e := toll.Lines(rules(), nil, "h1")
	same(t, "nothing", lines, nil)
	is(t, "nothing", e, api.OK)
	most := many(api.MaxPassages, func(i int) api.Charge { return charge(i, "h1", "v1", api.MaxRate) })
	lines, e = toll.Lines(api.TollRules{Fee: api.MaxRate}, most, "h1")
	same(t, "MaxCents", lines, []api.Line{row("toll", api.MaxCents), row("tollfee", api.MaxRate)})
	is(t, "MaxCents", e, api.OK)
}

// P6.3
func TestLinesErrors(t *testing.T) {
	inOrder(t, "Lines", func(v values) api.Errno { _, e := toll.Lines(v.rules, v.charges, v.hire); return e }, badRules, badCharges, badHire)
	some := func(count int) []api.Charge {
		return many(count, func(i int) api.Charge { return charge(i, "h1", "v1", 1) })
	}
	ofCharges := func(l []api.Charge) api.Errno {
		lines, e := toll.Lines(rules(), l, "h1")
		is(t, "lines with an error", e != api.OK && len(lines) > 0, false)
		return e
	}
	runChecks(t, ofCharges, []check[api.Charge]{
		{"none", nil, api.OK},
		{"MaxPassages", some(api.MaxPassages), api.OK},
		{"more", some(api.MaxPassages + 1), api.ErrLarge},
		{"large before all", append([]api.Charge{charge(-1, "H", "V", -1)}, some(api.MaxPassages)...), api.ErrLarge},
		{"longest names", []api.Charge{charge(0, longKey, longKey, 1)}, api.OK},
		{"hire", []api.Charge{charge(0, "H1", "v1", 1)}, api.ErrName},
		{"longer hire", []api.Charge{charge(0, longerKey, "v1", 1)}, api.ErrName},
		{"vehicle", []api.Charge{charge(0, "h1", "V1", 1)}, api.ErrName},
		{"longer vehicle", []api.Charge{charge(0, "h1", longerKey, 1)}, api.ErrName},
		{"no vehicle", []api.Charge{charge(0, "h1", "", 1)}, api.OK},
		{"no hire", []api.Charge{charge(0, "", "v1", 1)}, api.OK},
		{"name before number", []api.Charge{charge(-1, "h1", "V1", 1)}, api.ErrName},
		{"number below 0", []api.Charge{charge(-1, "h1", "v1", 1)}, api.ErrArg},
		{"least number", []api.Charge{charge(least, "h1", "v1", 1)}, api.ErrArg},
		{"greatest number", []api.Charge{charge(0, "h1", "v1", 1), charge(greatest, "h1", "v1", 1)}, api.OK},
		{"number below 0 before order", []api.Charge{charge(3, "h1", "v1", 1), charge(-1, "h1", "v1", 1)}, api.ErrArg},
		{"same number", []api.Charge{charge(3, "h1", "v1", 1), charge(3, "h2", "v2", 1)}, api.ErrOrder},
		{"lesser number", []api.Charge{charge(3, "h1", "v1", 1), charge(2, "h2", "v2", 1)}, api.ErrOrder},
		{"order before cents", []api.Charge{charge(3, "h1", "v1", 1), charge(3, "h1", "v1", -1)}, api.ErrOrder},
		{"cents below 0", []api.Charge{charge(3, "h1", "v1", -1)}, api.ErrArg},
		{"cents of others", []api.Charge{charge(3, "h2", "v1", -1)}, api.ErrArg},
		{"MaxRate", []api.Charge{charge(3, "h1", "v1", api.MaxRate)}, api.OK},
		{"more cents", []api.Charge{charge(3, "h1", "v1", api.MaxRate+1)}, api.ErrArg},
		{"least cents", []api.Charge{charge(3, "h1", "v1", least)}, api.ErrArg},
		{"greatest cents", []api.Charge{charge(3, "h1", "v1", greatest)}, api.ErrArg},
		{"cents before the next one", []api.Charge{charge(3, "h1", "v1", -1), charge(4, "H", "", 1)}, api.ErrArg},
	})
	for _, hire := range []string{"", "H1", "1h", longerKey} {
		lines, e := toll.Lines(rules(), some(3), hire)
		same(t, hire, lines, nil)
		is(t, hire, e, api.ErrName)
	}
}
