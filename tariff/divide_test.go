package tariff_test

import (
	"cmp"
	"fmt"
	"math"
	"math/rand"
	"slices"
	"testing"

	"forecourt/api"
	"forecourt/tariff"
)

// piece makes pieces of the tests short.
func piece(kind, days, cents int) api.Piece { return api.Piece{Kind: kind, Days: days, Cents: cents} }

const (
	hours   = api.PieceHours
	day     = api.PieceDay
	weekend = api.PieceWeekend
	week    = api.PieceWeek
)

// divide is for cases that are right.
func divide(t *testing.T, l []api.Rate, class string, w api.Window) []api.Piece {
	t.Helper()
	p, e := tariff.Divide(l, class, w)
	is(t, fmt.Sprint("Divide of ", w), e, api.OK)
	return p
}

// P2.2: what each kind of piece can cover, and costs.
func TestCost(t *testing.T) {
	cases := []struct {
		what  string
		class string
		w     api.Window
		p     []api.Piece
		want  int
		e     api.Errno
	}{
		{"a day", "mini", span(0, 60), []api.Piece{piece(day, 1, 50)}, 50, api.OK},
		{"an hour", "mini", span(0, 60), []api.Piece{piece(hours, 1, 10)}, 10, api.OK},
		{"a minute", "mini", span(0, 1), []api.Piece{piece(hours, 1, 10)}, 10, api.OK},
		{"an hour is begun", "mini", span(0, 61), []api.Piece{piece(hours, 1, 20)}, 20, api.OK},
		{"24 hours", "mini", span(0, api.DayLong), []api.Piece{piece(hours, 1, 240)}, 240, api.OK},
		{"hours of the last day", "mini", span(0, api.DayLong+61), []api.Piece{piece(day, 1, 50), piece(hours, 1, 20)}, 70, api.OK},
		{"hours of another day", "mini", span(0, api.DayLong+61), []api.Piece{piece(hours, 1, 240), piece(hours, 1, 20)}, 0, api.ErrRule},
		{"hours of two days", "mini", span(0, api.DayLong+61), []api.Piece{piece(hours, 2, 260)}, 0, api.ErrRule},
		{"a day of two", "mini", span(0, 2*api.DayLong), []api.Piece{piece(day, 2, 50)}, 0, api.ErrRule},
		{"no days", "mini", span(0, 60), []api.Piece{piece(day, 0, 50)}, 0, api.ErrRule},
		{"days below 0", "mini", span(0, 60), []api.Piece{piece(day, -1, 50)}, 0, api.ErrRule},
		{"greatest days", "mini", span(0, 60), []api.Piece{piece(week, math.MaxInt, 200)}, 0, api.ErrRule},
		{"least days", "mini", span(0, 60), []api.Piece{piece(weekend, math.MinInt, 70)}, 0, api.ErrRule},
		{"not all covered", "mini", span(0, 2*api.DayLong), []api.Piece{piece(day, 1, 50)}, 0, api.ErrRule},
		{"nothing covered", "mini", span(0, 60), nil, 0, api.ErrRule},
		{"too much", "mini", span(0, 60), []api.Piece{piece(day, 1, 50), piece(day, 1, 50)}, 0, api.ErrNone},
		{"kind 0", "mini", span(0, 60), []api.Piece{piece(0, 1, 50)}, 0, api.ErrKind},
		{"kind 5", "mini", span(0, 60), []api.Piece{piece(5, 1, 50)}, 0, api.ErrKind},
		{"kind before none of the hire", "mini", span(0, 60), []api.Piece{piece(day, 1, 50), piece(5, 1, 50)}, 0, api.ErrKind},
		{"another price", "mini", span(0, 60), []api.Piece{piece(day, 1, 51)}, 0, api.ErrSum},
		{"rule before price", "mini", span(0, 60), []api.Piece{piece(day, 2, 51)}, 0, api.ErrRule},
		{"price before the next kind", "mini", span(0, 2*api.DayLong), []api.Piece{piece(day, 1, 51), piece(9, 1, 50)}, 0, api.ErrSum},
		{"not offered", "maxi", span(0, 60), []api.Piece{piece(day, 1, -1)}, 0, api.ErrRule},
		{"hours not offered", "maxi", span(0, 60), []api.Piece{piece(hours, 1, -1)}, 0, api.ErrRule},
		{"no season", "midi", span(9*api.DayLong, 60), []api.Piece{piece(day, 1, 90)}, 0, api.ErrNone},
		{"no season later", "midi", span(8*api.DayLong, api.DayLong+1), []api.Piece{piece(day, 1, 90), piece(day, 1, 90)}, 0, api.ErrNone},
		{"kind before season", "midi", span(9*api.DayLong, 60), []api.Piece{piece(-1, 1, 90)}, 0, api.ErrKind},
		{"a class without rates", "van", span(0, 60), []api.Piece{piece(day, 1, 50)}, 0, api.ErrNone},
		{"the season of each day", "midi", span(9*api.DayLong-1, 2*api.DayLong), []api.Piece{piece(day, 1, 90), piece(day, 1, 90)}, 0, api.ErrNone},
	}
	for _, c := range cases {
		n, e := tariff.Cost(rates(), c.class, c.w, c.p)
		is(t, c.what, n, c.want)
		is(t, c.what, e, c.e)
	}
}

// P2.2: a weekend goes from Friday's noon to Monday's.
func TestWeekends(t *testing.T) {
	const d = api.DayLong
	cases := []struct {
		what string
		w    api.Window
		days int
		ok   bool
	}{
		{"Friday, noon, to Monday, noon", span(fridayNoon, 3*d), 3, true},
		{"a minute earlier", span(fridayNoon-1, 3*d), 3, false},
		{"a minute earlier, a day", span(fridayNoon-1, d), 1, false},
		{"a minute later", span(fridayNoon+1, 3*d), 3, false},
		{"a minute later, to Monday, noon", span(fridayNoon+1, 3*d-1), 3, true},
		{"to Monday, noon, and a minute", api.Window{From: sundayNoon + 1, To: nextMonday + 1}, 1, false},
		{"from Sunday, to Monday, noon", api.Window{From: sundayNoon + 1, To: nextMonday}, 1, true},
		{"Sunday, noon", span(sundayNoon, d), 1, true},
		{"Monday morning", api.Window{From: nextMonday - 1, To: nextMonday}, 1, true},
		{"Monday, noon", span(nextMonday, 1), 1, false},
		{"into Monday afternoon", api.Window{From: nextMonday - 1, To: nextMonday + 1}, 1, false},
		{"a minute on Friday", span(fridayNoon, 1), 1, true},
		{"the first Monday morning", span(0, mondayNoon), 1, true},
		{"the first Monday morning, a minute more", span(0, mondayNoon+1), 1, false},
		{"the first Monday, noon", span(mondayNoon, 1), 1, false},
		{"Thursday", span(thursdayNoon, d), 1, false},
		{"four days", span(fridayNoon, 4*d), 4, false},
		{"the next weekend too", span(sundayNoon, 6*d), 6, false},
		{"the last Sunday", span(571*7*d-d, d/2), 1, true},
	}
	for _, c := range cases {
		n, e := tariff.Cost(rates(), "mini", c.w, []api.Piece{piece(weekend, c.days, 70)})
		is(t, c.what, e == api.OK, c.ok)
		is(t, c.what, n, map[bool]int{true: 70}[c.ok])
		if !c.ok {
			is(t, c.what, e, api.ErrRule)
		}
	}
	// Parts of a weekend are pieces too.
	n, e := tariff.Cost(rates(), "mini", span(fridayNoon, 3*d), []api.Piece{piece(weekend, 1, 70), piece(weekend, 2, 70)})
	is(t, "parts", n, 140)
	is(t, "parts", e, api.OK)
	_, e = tariff.Cost(rates(), "mini", span(thursdayNoon, 3*d), []api.Piece{piece(day, 1, 50), piece(weekend, 3, 70)})
	is(t, "more days than the hire", e, api.ErrRule)
}

// P2.2: the first day has the price of a weekend; all days need a season.
func TestSeasonsOfWeekends(t *testing.T) {
	w := span(fridayNoon, 3*api.DayLong)
	season := func(from, to, price int) api.Rate {
		return api.Rate{Class: "a", From: from, To: to, Hour: -1, Day: -1, Weekend: price, Week: -1}
	}
	cases := []struct {
		what string
		l    []api.Rate
		want int
		e    api.Errno
	}{
		{"two seasons", []api.Rate{season(0, 5, 70), season(5, 9, 80)}, 70, api.OK},
		{"the second one does not offer it", []api.Rate{season(0, 5, 70), season(5, 9, -1)}, 70, api.OK},
		{"the first one does not", []api.Rate{season(0, 5, -1), season(5, 9, 70)}, 0, api.ErrRule},
		{"the day of its end needs none", []api.Rate{season(0, 7, 70)}, 70, api.OK},
		{"the last day has none", []api.Rate{season(0, 6, 70)}, 0, api.ErrRule},
		{"a day between has none", []api.Rate{season(0, 5, 70), season(6, 9, 70)}, 0, api.ErrRule},
		{"the first day has none", []api.Rate{season(5, 9, 70)}, 0, api.ErrNone},
	}
	for _, c := range cases {
		n, e := tariff.Cost(c.l, "a", w, []api.Piece{piece(weekend, 3, 70)})
		is(t, c.what, n, c.want)
		is(t, c.what, e, c.e)
	}
}

// P2.2: seven rental days, or all that are left, of one season.
func TestWeeks(t *testing.T) {
	const d = api.DayLong
	two := []api.Rate{
		{Class: "a", From: 0, To: 10, Hour: 1, Day: 1, Weekend: 1, Week: 200},
		{Class: "a", From: 10, To: 20, Hour: 1, Day: 1, Weekend: 1, Week: 200},
		{Class: "a", From: 21, To: 40, Hour: 1, Day: 1, Weekend: 1, Week: -1},
	}
	cases := []struct {
		what string
		w    api.Window
		p    []api.Piece
		want int
		e    api.Errno
	}{
		{"seven days", span(0, 7*d), []api.Piece{piece(week, 7, 200)}, 200, api.OK},
		{"all that are left", span(0, 3*d-1), []api.Piece{piece(week, 3, 200)}, 200, api.OK},
		{"one is left", span(0, 1), []api.Piece{piece(week, 1, 200)}, 200, api.OK},
		{"fewer than are left", span(0, 3*d), []api.Piece{piece(week, 2, 200), piece(day, 1, 1)}, 0, api.ErrRule},
		{"more than are left", span(0, 3*d), []api.Piece{piece(week, 4, 200)}, 0, api.ErrRule},
		{"seven, where fewer are left", span(0, 3*d), []api.Piece{piece(week, 7, 200)}, 0, api.ErrRule},
		{"six of eight", span(0, 8*d), []api.Piece{piece(week, 6, 200), piece(week, 2, 200)}, 0, api.ErrRule},
		{"eight", span(0, 8*d), []api.Piece{piece(week, 8, 200)}, 0, api.ErrRule},
		{"seven and one", span(0, 8*d), []api.Piece{piece(week, 7, 200), piece(week, 1, 200)}, 400, api.OK},
		{"the day of its end is another season", span(3*d+720, 7*d), []api.Piece{piece(week, 7, 200)}, 200, api.OK},
		{"two seasons of one price", span(4*d, 7*d), []api.Piece{piece(week, 7, 200)}, 0, api.ErrRule},
		{"the rest has two seasons", span(9*d, 2*d), []api.Piece{piece(week, 2, 200)}, 0, api.ErrRule},
		{"a day without a season", span(15*d, 7*d), []api.Piece{piece(week, 7, 200)}, 0, api.ErrRule},
		{"not offered", span(21*d, 7*d), []api.Piece{piece(week, 7, -1)}, 0, api.ErrRule},
		{"no season", span(20*d, d), []api.Piece{piece(week, 1, 200)}, 0, api.ErrNone},
	}
	for _, c := range cases {
		n, e := tariff.Cost(two, "a", c.w, c.p)
		is(t, c.what, n, c.want)
		is(t, c.what, e, c.e)
	}
}

// P2.1, P2.2: errors that functions with rates, a class and a time have in common, and their order.
func TestStayErrors(t *testing.T) {
	functions := map[string]func(l []api.Rate, class string, w api.Window) (bool, api.Errno){
		"Cost": func(l []api.Rate, class string, w api.Window) (bool, api.Errno) {
			n, e := tariff.Cost(l, class, w, []api.Piece{{}})
			return n == 0, e
		},
		"Divide": func(l []api.Rate, class string, w api.Window) (bool, api.Errno) {
			p, e := tariff.Divide(l, class, w)
			return len(p) == 0, e
		},
		"Stretch": func(l []api.Rate, class string, w api.Window) (bool, api.Errno) {
			to, e := tariff.Stretch(l, class, w)
			return to == 0, e
		},
	}
	for what, function := range functions {
		expect := func(l []api.Rate, class string, w api.Window, want api.Errno) {
			t.Helper()
			zero, e := function(l, class, w)
			is(t, what, e, want)
			is(t, what+" is zero", zero, true)
		}
		expect(badRates(), "", api.Window{}, badRatesError)
		expect(make([]api.Rate, api.MaxRates+1), "", api.Window{}, api.ErrLarge)
		expect(rates(), "", api.Window{}, api.ErrName)
		expect(rates(), longerKey, longWindow(), api.ErrName)
		expect(rates(), "van", longWindow(), api.ErrLarge)
		for _, w := range badWindows() {
			expect(rates(), "van", w, api.ErrArg)
		}
	}
}

// P2.2: the example, and which one of several divisions is taken.
func TestDivide(t *testing.T) {
	const d = api.DayLong
	one := func(hour, day, weekend, week int) []api.Rate {
		return []api.Rate{{Class: "mini", To: 4001, Hour: hour, Day: day, Weekend: weekend, Week: week}}
	}
	cases := []struct {
		what string
		l    []api.Rate
		w    api.Window
		want []api.Piece
	}{
		{"four days", rates(), span(thursdayNoon, 4*d), []api.Piece{piece(day, 1, 50), piece(weekend, 3, 70)}},
		{"five days", rates(), span(thursdayNoon, 5*d), []api.Piece{piece(day, 1, 50), piece(weekend, 3, 70), piece(day, 1, 50)}},
		{"six days", rates(), span(thursdayNoon, 6*d), []api.Piece{piece(week, 6, 200)}},
		{"hours are less than a day", rates(), span(0, 240), []api.Piece{piece(hours, 1, 40)}},
		{"the lesser kind: hours or a day", rates(), span(0, 300), []api.Piece{piece(hours, 1, 50)}},
		{"a day is less than hours", rates(), span(0, 301), []api.Piece{piece(day, 1, 50)}},
		{"the lesser kind: a day or a weekend", one(-1, 5, 5, 5), span(fridayNoon, d), []api.Piece{piece(day, 1, 5)}},
		{"the lesser kind: a weekend or a week", one(-1, 6, 5, 5), span(fridayNoon, 3*d), []api.Piece{piece(weekend, 3, 5)}},
		{"the fewest pieces", one(-1, 1, 9, 3), span(fridayNoon, 3*d), []api.Piece{piece(week, 3, 3)}},
		{"the fewest pieces, not the lesser kind first", one(-1, 5, 15, -1), span(fridayNoon, 3*d), []api.Piece{piece(weekend, 3, 15)}},
		{"the lesser kind first", one(-1, 10, 10, -1), span(sundayNoon, 2*d), []api.Piece{piece(day, 1, 10), piece(day, 1, 10)}},
		{"the fewer days first", one(-1, -1, 10, 20), span(fridayNoon, 4*d), []api.Piece{piece(week, 4, 20)}},
		{"prices of 0", one(0, 0, 0, 0), span(fridayNoon, 9*d), []api.Piece{piece(weekend, 2, 0), piece(week, 7, 0)}},
		{"prices of 0, on weekdays", one(0, 0, 0, 0), span(0, 8*d), []api.Piece{piece(day, 1, 0), piece(week, 7, 0)}},
	}
	for _, c := range cases {
		mustCheck(t, c.l)
		same(t, c.what, divide(t, c.l, "mini", c.w), c.want)
	}
	none := []struct {
		class string
		w     api.Window
	}{{"van", span(0, 60)}, {"midi", span(9*d, 60)}, {"midi", span(8*d, 2*d)}, {"midi", span(0, 4*d)}, {"midi", span(19*d, d+1)}}
	for _, c := range none {
		p, e := tariff.Divide(rates(), c.class, c.w)
		same(t, "no division", p, nil)
		is(t, "no division", e, api.ErrNone)
	}
	same(t, "seasons change", divide(t, rates(), "midi", span(8*d, d)), []api.Piece{piece(day, 1, 90)})
}

// P2.2: at the bounds of what a hire can be.
func TestDivideAtBounds(t *testing.T) {
	most := []api.Rate{{Class: "a", To: 4001, Hour: api.MaxRate, Day: api.MaxRate, Weekend: -1, Week: -1}}
	w := span(0, api.MaxDays*api.DayLong)
	p := divide(t, most, "a", w)
	is(t, "MaxDays pieces", len(p), api.MaxDays)
	n, e := tariff.Cost(most, "a", w, p)
	is(t, "MaxDays pieces", n, api.MaxDays*api.MaxRate)
	is(t, "MaxDays pieces", e, api.OK)
	most[0].Day = -1
	p = divide(t, most, "a", span(0, api.DayLong))
	same(t, "24 hours", p, []api.Piece{piece(hours, 1, 24*api.MaxRate)})
	p = divide(t, rates(), "maxi", api.Window{From: api.End - 1 - 8*api.DayLong, To: api.End - 1})
	same(t, "the end", p, []api.Piece{piece(week, 7, 900), piece(week, 1, 900)})
}

// price says by the words of P2.2 whether a piece can be used, and what it costs.
func price(l []api.Rate, class string, w api.Window, first, kind, many int) (int, bool) {
	days, _ := tariff.Days(w)
	if first+many > days {
		return 0, false
	}
	begins, ends := w.From+first*api.DayLong, min(w.To, w.From+(first+many)*api.DayLong)
	var seasons []api.Rate
	for d := first; d < first+many; d++ {
		rate, e := tariff.RateOn(l, class, (w.From+d*api.DayLong)/api.DayLong)
		if e != api.OK {
			return 0, false
		}
		seasons = append(seasons, rate)
	}
	season := seasons[0]
	switch kind {
	case hours:
		return season.Hour * ((ends - begins + 59) / 60), many == 1 && first == days-1 && season.Hour >= 0
	case day:
		return season.Day, many == 1 && season.Day >= 0
	case weekend:
		for at := begins; at < ends; at++ {
			if !inWeekend(at) {
				return 0, false
			}
		}
		return season.Weekend, season.Weekend >= 0
	}
	one := len(slices.Compact(seasons)) == 1
	return season.Week, one && season.Week >= 0 && (many == 7 || many < 7 && first+many == days)
}

// inWeekend says whether a moment is in a weekend.
func inWeekend(at int) bool {
	minute := at % api.DayLong
	switch at / api.DayLong % 7 {
	case 4:
		return minute >= 720
	case 5, 6:
		return true
	case 0:
		return minute < 720
	}
	return false
}

// divisions hands on all divisions of the rental days from first on, behind those that there are already.
func divisions(l []api.Rate, class string, w api.Window, first int, done []api.Piece, found func([]api.Piece)) {
	days, _ := tariff.Days(w)
	if first == days {
		found(done)
		return
	}
	for kind := hours; kind <= week; kind++ {
		for many := 1; many <= 7; many++ {
			if cents, ok := price(l, class, w, first, kind, many); ok {
				divisions(l, class, w, first+many, append(done, piece(kind, many, cents)), found)
			}
		}
	}
}

// compareDivisions is the order of P2.2.
func compareDivisions(a, b []api.Piece) int {
	return cmp.Or(cmp.Compare(sum(a), sum(b)), cmp.Compare(len(a), len(b)), slices.CompareFunc(a, b, func(x, y api.Piece) int {
		return cmp.Or(cmp.Compare(x.Kind, y.Kind), cmp.Compare(x.Days, y.Days))
	}))
}

func sum(p []api.Piece) int {
	cents := 0
	for _, x := range p {
		cents += x.Cents
	}
	return cents
}

// someWindow is a time of some days, which begins in the first ones.
func someWindow(r *rand.Rand, days int) api.Window {
	from := r.Intn(10 * api.DayLong)
	if r.Intn(2) == 0 {
		from = from / 720 * 720
	}
	minutes := 1 + r.Intn(days*api.DayLong)
	if r.Intn(2) == 0 {
		minutes = 60 + minutes/60*60
	}
	return span(from, min(minutes, days*api.DayLong))
}

// P2.2: Divide is the least one of all divisions, and each of them has the Cost that it should.
func TestDivideAtRandom(t *testing.T) {
	r := rand.New(rand.NewSource(2))
	for range 400 {
		l, w := someRates(r, 20), someWindow(r, 9)
		mustCheck(t, l)
		var least []api.Piece
		divisions(l, "mini", w, 0, nil, func(p []api.Piece) {
			if n, e := tariff.Cost(l, "mini", w, p); n != sum(p) || e != api.OK {
				t.Errorf("%v, %v: Cost of %v: %d, %d", l, w, p, n, e)
			}
			if least == nil || compareDivisions(p, least) < 0 {
				least = slices.Clone(p)
			}
		})
		p, e := tariff.Divide(l, "mini", w)
		same(t, fmt.Sprint(l, w), p, least)
		is(t, fmt.Sprint(l, w), e == api.ErrNone, least == nil)
	}
}

// P2.2: what is no piece by the words of P2.2 has the error that they say.
func TestCostAtRandom(t *testing.T) {
	r := rand.New(rand.NewSource(3))
	seen := map[api.Errno]int{}
	for range 20_000 {
		l, w := someRates(r, 20), someWindow(r, 5)
		days, _ := tariff.Days(w)
		var p []api.Piece
		covered, want, want2 := 0, api.OK, 0
		for want == api.OK && (covered < days || r.Intn(4) == 0) && r.Intn(9) > 0 {
			x := piece(r.Intn(6), r.Intn(5), 0)
			want = wrong(l, w, covered, &x, r)
			p = append(p, x)
			covered += x.Days
		}
		if want == api.OK && covered < days {
			want = api.ErrRule
		}
		if want == api.OK {
			want2 = sum(p)
		}
		n, e := tariff.Cost(l, "mini", w, p)
		is(t, fmt.Sprint(l, w, p), e, want)
		is(t, fmt.Sprint(l, w, p), n, want2)
		seen[e]++
	}
	for _, e := range []api.Errno{api.OK, api.ErrKind, api.ErrNone, api.ErrRule, api.ErrSum} {
		is(t, fmt.Sprint("there are cases of error ", e), seen[e] > 50, true)
	}
}

// wrong gives a piece its price, or at times another one, and says what is wrong with it.
func wrong(l []api.Rate, w api.Window, first int, p *api.Piece, r *rand.Rand) api.Errno {
	if p.Kind < hours || p.Kind > week {
		return api.ErrKind
	}
	if days, _ := tariff.Days(w); first >= days {
		return api.ErrNone
	}
	if _, e := tariff.RateOn(l, "mini", w.From/api.DayLong+first); e != api.OK {
		return api.ErrNone
	}
	if p.Days < 1 {
		return api.ErrRule
	}
	cents, ok := price(l, "mini", w, first, p.Kind, p.Days)
	p.Cents = cents
	if !ok {
		return api.ErrRule
	}
	if r.Intn(6) == 0 {
		p.Cents++
		return api.ErrSum
	}
	return api.OK
}

// P2.2
func TestStretch(t *testing.T) {
	const d = api.DayLong
	free := []api.Rate{{Class: "mini", To: 4001, Hour: -1, Day: 0, Weekend: -1, Week: -1}}
	short := []api.Rate{{Class: "mini", To: 9, Hour: -1, Day: -1, Weekend: -1, Week: 200}}
	cases := []struct {
		what string
		l    []api.Rate
		w    api.Window
		want int
	}{
		{"to a week", rates(), span(thursdayNoon, 6*d), thursdayNoon + 7*d},
		{"a begun hour", rates(), span(0, 61), 120},
		{"a whole hour", rates(), span(0, 60), 60},
		{"hours for the price of a day", rates(), span(d, 241), 2 * d},
		{"to Monday, noon", rates(), span(fridayNoon+5, 2*d), nextMonday},
		{"it is so long already", rates(), span(fridayNoon, 3*d), nextMonday},
		{"MaxDays", free, span(100, 1), 100 + api.MaxDays*d},
		{"MaxDays already", free, span(100, api.MaxDays*d), 100 + api.MaxDays*d},
		{"the end", free, api.Window{From: api.End - 9*d, To: api.End - 8*d}, api.End - 1},
		{"the end already", free, api.Window{From: api.End - 9*d, To: api.End - 1}, api.End - 1},
		{"to the end of the season", short, span(7*d+720, 1), 9*d + 720},
		{"not over another season", rates(), span(7*d, 2*d), 9 * d},
	}
	for _, c := range cases {
		class := "mini"
		if c.what == "not over another season" {
			class = "midi"
		}
		to, e := tariff.Stretch(c.l, class, c.w)
		is(t, c.what, to, c.want)
		is(t, c.what, e, api.OK)
	}
	to, e := tariff.Stretch(rates(), "midi", span(8*d, 2*d))
	is(t, "no division", to, 0)
	is(t, "no division", e, api.ErrNone)
}

// P2.2: each later end costs more, or has no division; all until then do not.
func TestStretchAtRandom(t *testing.T) {
	r := rand.New(rand.NewSource(4))
	for range 300 {
		l, w := someRates(r, 20), someWindow(r, 6)
		last := w.From + 30*api.DayLong // behind all seasons
		p, e := tariff.Divide(l, "mini", w)
		to, e2 := tariff.Stretch(l, "mini", w)
		is(t, "Stretch has the error of Divide", e2, e)
		if e != api.OK {
			continue
		}
		is(t, "in order", to >= w.To && to <= last, true)
		for at := w.To; at <= last; at += 1 + r.Intn(400) {
			for _, end := range []int{at, min(to, at), max(to+1, at)} {
				longer, e := tariff.Divide(l, "mini", api.Window{From: w.From, To: end})
				is(t, fmt.Sprint(l, w, end), e == api.OK && sum(longer) <= sum(p), end <= to)
			}
		}
	}
}

// P2.2: a hire that ends later never costs less, and has no division where a shorter one has none.
func TestLongerNeverCostsLess(t *testing.T) {
	r := rand.New(rand.NewSource(5))
	for range 200 {
		l, w := someRates(r, 25), someWindow(r, 1)
		before := -1
		for range 100 {
			p, e := tariff.Divide(l, "mini", w)
			if e != api.OK {
				before = math.MaxInt
			} else if cents := sum(p); cents < before {
				t.Errorf("%v, %v costs less than a shorter hire", l, w)
			} else {
				before = cents
			}
			w.To += 1 + r.Intn(300)
		}
	}
}
