package mark

import (
	"forecourt/api"
	"forecourt/basic"
)

// canBe says whether an older mark can be a newer one.
func canBe(r api.Rules, older, newer api.Mark) bool {
	return kindOf(older) == kindOf(newer) && distance(older, newer) <= r.Near*r.Near && newer.Size >= older.Size-r.Slack
}

// Match pairs older marks with newer ones.
func Match(p []api.Panel, r api.Rules, a, b []api.Mark) ([]api.Pairing, api.Errno) {
	if e := checkAll(p, r, a, b); e != api.OK {
		return nil, e
	}
	return match(r, a, b), api.OK
}

// match is the best matching of marks that are right. Marks of one kind on one panel follow each other: the best matchings of all kinds, in the order of the marks, are the best one of all.
func match(r api.Rules, a, b []api.Mark) []api.Pairing {
	older, newer := byKind(a), byKind(b)
	var l []api.Pairing
	for number, m := range a {
		k := kindOf(m)
		if older[k][0] == number {
			l = append(l, sketch{r, a, b, older[k], newer[k]}.best()...)
		}
	}
	return l
}

// sketch has the numbers of the older and the newer marks of one kind on one panel.
type sketch struct {
	rules        api.Rules
	a, b         []api.Mark
	older, newer []int
}

// plan is the best matching of the older marks from one place on with newer ones that are free: how many pairings it has, how far they are apart in all, and the place of the newer mark that the first of the older ones is (unpaired: none).
type plan struct{ many, apart, first int }

const unpaired = -1

// better says whether a plan has more pairings than another one, or as many that are less far apart.
func (p plan) better(other plan) bool {
	if p.many != other.many {
		return p.many > other.many
	}
	return p.apart < other.apart
}

// best is the best matching of these marks.
func (s sketch) best() []api.Pairing {
	var l []api.Pairing
	plans, used := s.plans(), 0
	for place, number := range s.older {
		if first := plans[place][used].first; first != unpaired {
			l = append(l, api.Pairing{A: number, B: s.newer[first]})
			used |= 1 << first
		}
	}
	return l
}

// plans has, for each place of the older marks and behind the last one, the plan for each set of newer marks that are used: bit i of its number is the one at place i.
func (s sketch) plans() [][]plan {
	sets := 1 << len(s.newer)
	plans := make([][]plan, len(s.older)+1)
	plans[len(s.older)] = make([]plan, sets)
	for place := len(s.older) - 1; place >= 0; place-- {
		for used := range sets {
			plans[place] = append(plans[place], s.planFrom(place, used, plans[place+1]))
		}
	}
	return plans
}

// planFrom is the plan from a place on, with the plans from the next one on. Of equal ones the least list is tried first, and kept: the one in which this mark is unpaired is the last, as its first pairing has a greater A.
func (s sketch) planFrom(place, used int, next []plan) plan {
	older := s.a[s.older[place]]
	best := plan{many: -1} // worse than all
	for i, number := range s.newer {
		newer := s.b[number]
		if used&(1<<i) != 0 || !canBe(s.rules, older, newer) {
			continue
		}
		p := next[used|1<<i]
		p.many++
		p.apart += distance(older, newer)
		p.first = i
		if p.better(best) {
			best = p
		}
	}
	alone := next[used]
	alone.first = unpaired
	if alone.better(best) {
		return alone
	}
	return best
}

// Apart is the sum of the distances of a matching.
func Apart(p []api.Panel, r api.Rules, a, b []api.Mark, l []api.Pairing) (int, api.Errno) {
	if e := checkAll(p, r, a, b); e != api.OK {
		return 0, e
	}
	sum, before := 0, -1 // less than all numbers
	paired := map[int]bool{}
	for _, x := range l {
		if !isNumber(x.A, a) || !isNumber(x.B, b) {
			return 0, api.ErrNone
		}
		if x.A <= before {
			return 0, api.ErrOrder
		}
		if paired[x.B] {
			return 0, api.ErrTwice
		}
		if !canBe(r, a[x.A], b[x.B]) {
			return 0, api.ErrRule
		}
		sum += distance(a[x.A], b[x.B])
		before = x.A
		paired[x.B] = true
	}
	return sum, api.OK
}

// isNumber says whether a list has an element with this number.
func isNumber[T any](n int, l []T) bool { return basic.Within(n, 0, len(l)-1) }

// News returns the marks that are new.
func News(p []api.Panel, r api.Rules, a, b []api.Mark) ([]int, api.Errno) {
	if e := checkAll(p, r, a, b); e != api.OK {
		return nil, e
	}
	was := olderOf(match(r, a, b))
	return numbersOf(b, func(number int) bool {
		_, paired := was[number]
		return !paired
	}), api.OK
}

// Grown returns the marks that have grown.
func Grown(p []api.Panel, r api.Rules, a, b []api.Mark) ([]int, api.Errno) {
	if e := checkAll(p, r, a, b); e != api.OK {
		return nil, e
	}
	was := olderOf(match(r, a, b))
	return numbersOf(b, func(number int) bool {
		older, paired := was[number]
		return paired && b[number].Size > a[older].Size+r.Slack
	}), api.OK
}

// Gone returns the marks that are gone.
func Gone(p []api.Panel, r api.Rules, a, b []api.Mark) ([]int, api.Errno) {
	if e := checkAll(p, r, a, b); e != api.OK {
		return nil, e
	}
	paired := map[int]bool{}
	for _, x := range match(r, a, b) {
		paired[x.A] = true
	}
	return numbersOf(a, func(number int) bool { return !paired[number] }), api.OK
}

// olderOf has the number of the older mark that each newer one was.
func olderOf(l []api.Pairing) map[int]int {
	was := make(map[int]int, len(l))
	for _, x := range l {
		was[x.B] = x.A
	}
	return was
}

// numbersOf has the numbers of those marks that are meant.
func numbersOf(l []api.Mark, meant func(number int) bool) []int {
	var numbers []int
	for number := range l {
		if meant(number) {
			numbers = append(numbers, number)
		}
	}
	return numbers
}
