package toll

import (
	"cmp"
	"slices"

	"forecourt/api"
	"forecourt/basic"
)

// uncapped is the Cap of rules without one.
const uncapped = -1

// CheckRules says whether rules are right.
func CheckRules(r api.TollRules) api.Errno {
	if !basic.Within(r.Double, 0, api.DayLong) || !basic.Within(r.Cap, uncapped, api.MaxRate) || !isRate(r.Fee) {
		return api.ErrArg
	}
	return api.OK
}

// Doubles returns the numbers of the doubles.
func Doubles(gates []api.Gate, r api.TollRules, l []api.Passage) ([]int, api.Errno) {
	if e := checkRuled(gates, r, l); e != api.OK {
		return nil, e
	}
	var doubles []int
	for number, double := range areDoubles(r, l) {
		if double {
			doubles = append(doubles, number)
		}
	}
	return doubles, api.OK
}

func checkRuled(gates []api.Gate, r api.TollRules, l []api.Passage) api.Errno {
	if e := CheckRules(r); e != api.OK {
		return e
	}
	return Check(gates, l)
}

// areDoubles says for each passage whether it is a double.
func areDoubles(r api.TollRules, l []api.Passage) []bool {
	type track struct{ gate, plate string }
	last := map[track]int{} // when one counted
	doubles := make([]bool, len(l))
	for i, p := range l {
		on := track{p.Gate, p.Plate}
		if at, seen := last[on]; seen && p.At-at < r.Double {
			doubles[i] = true
			continue
		}
		last[on] = p.At
	}
	return doubles
}

// Charges returns what passages cost whom.
func Charges(f api.Fleet, hires []api.Hire, gates []api.Gate, r api.TollRules, l []api.Passage) ([]api.Charge, api.Errno) {
	if e := checkOwners(f, hires); e != api.OK {
		return nil, e
	}
	if e := checkRuled(gates, r, l); e != api.OK {
		return nil, e
	}
	known, who, doubles := gatesOf(gates), ownersOf(f, hires), areDoubles(r, l)
	var charges []api.Charge
	for number, p := range l {
		if doubles[number] {
			continue
		}
		passed := known.trueTime(p)
		charges = append(charges, api.Charge{
			Hire:    who.hire(p.Plate, passed),
			Vehicle: who.vehicle(p.Plate, passed),
			Passage: number,
			Cents:   p.Cents,
		})
	}
	if r.Cap != uncapped {
		known.limit(r.Cap, l, charges)
	}
	return charges, api.OK
}

// limit leaves of the charges of each hire for an area and a day the most that it pays.
func (known knownGates) limit(most int, l []api.Passage, charges []api.Charge) {
	type account struct {
		hire, area string
		day        int
	}
	passed := func(c api.Charge) int { return known.trueTime(l[c.Passage]) }
	order := make([]int, len(charges))
	for i := range order {
		order[i] = i
	}
	slices.SortStableFunc(order, func(i, j int) int { return cmp.Compare(passed(charges[i]), passed(charges[j])) })
	paid := map[account]int{}
	for _, i := range order {
		c := &charges[i]
		if c.Hire == nobody {
			continue
		}
		on := account{c.Hire, known[l[c.Passage].Gate].Area, passed(*c) / api.DayLong}
		c.Cents = min(c.Cents, most-paid[on])
		paid[on] += c.Cents
	}
}

// Lines returns what a hire pays.
func Lines(r api.TollRules, l []api.Charge, hire string) ([]api.Line, api.Errno) {
	if e := CheckRules(r); e != api.OK {
		return nil, e
	}
	if e := checkCharges(l); e != api.OK {
		return nil, e
	}
	if !basic.IsKey(hire) {
		return nil, api.ErrName
	}
	sum := 0
	for _, c := range l {
		if c.Hire == hire {
			sum += c.Cents
		}
	}
	if sum > api.MaxCents {
		return nil, api.ErrLarge
	}
	if sum == 0 {
		return nil, api.OK
	}
	lines := []api.Line{{Kind: api.LineOther, Key: "toll", Cents: sum}}
	if r.Fee > 0 {
		lines = append(lines, api.Line{Kind: api.LineOther, Key: "tollfee", Cents: r.Fee})
	}
	return lines, api.OK
}

func checkCharges(l []api.Charge) api.Errno {
	if len(l) > api.MaxPassages {
		return api.ErrLarge
	}
	before := -1 // less than all numbers
	for _, c := range l {
		switch {
		case !isKeyOrNobody(c.Hire) || !isKeyOrNobody(c.Vehicle):
			return api.ErrName
		case c.Passage < 0:
			return api.ErrArg
		case c.Passage <= before:
			return api.ErrOrder
		case !isRate(c.Cents):
			return api.ErrArg
		}
		before = c.Passage
	}
	return api.OK
}

func isKeyOrNobody(s string) bool { return s == nobody || basic.IsKey(s) }
