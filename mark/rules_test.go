package mark_test

import (
	"fmt"
	"math/rand"
	"slices"
	"sync"
	"testing"

	"forecourt/api"
	"forecourt/mark"
)

// values are arguments for all functions.
type values struct {
	panels  []api.Panel
	a, b    []api.Mark
	pairs   []api.Pairing
	repairs []api.Repair
	reports []api.Report
	weights []int
	hires   []api.Hire
	shares  []api.Share
	waivers []api.Waiver
}

func someValues() values {
	return values{
		panels(), older(), newer(), pairings(0, 0, 1, 1), costs(), reports(), []int{1, 1, 1}, blamed(),
		[]api.Share{share("", 200), share("h1", 300), share("h2", 500)}, []api.Waiver{waiver("h2", 100)},
	}
}

// everything calls all functions, and puts all results together.
func everything(v values) string {
	var all []any
	put := func(results ...any) { all = append(all, results...) }
	put(mark.CheckPanels(v.panels), mark.CheckMarks(v.panels, v.a), mark.CheckRules(rules()), mark.CheckRepairs(v.repairs), mark.CheckReports(v.panels, v.reports))
	pairs, e := mark.Match(v.panels, rules(), v.a, v.b)
	put(pairs, e)
	n, e := mark.Apart(v.panels, rules(), v.a, v.b, v.pairs)
	put(n, e)
	for _, function := range []func([]api.Panel, api.Rules, []api.Mark, []api.Mark) ([]int, api.Errno){mark.News, mark.Grown, mark.Gone} {
		numbers, e := function(v.panels, rules(), v.a, v.b)
		put(numbers, e)
	}
	groups, e := mark.Groups(v.panels, rules(), v.a)
	put(groups, e)
	price, e := mark.Price(v.repairs, v.a[0])
	put(price, e)
	cents, sum, e := mark.Estimate(v.panels, rules(), v.repairs, v.a)
	put(cents, sum, e)
	report, number, e := mark.First(v.panels, rules(), v.reports, 3, 1)
	put(report, number, e)
	parts, e := mark.Split(100, v.weights)
	put(parts, e)
	shares, e := mark.Blame("v1", api.Window{From: 100, To: 200}, v.hires, 1000)
	put(shares, e)
	paid, left, e := mark.Excess(v.shares, v.waivers)
	put(paid, left, e)
	drawing, e := mark.Draw(v.panels[0], 50, v.a)
	put(drawing, e)
	text, e := mark.Text(v.a)
	put(text, e)
	read, line, e := mark.Read(text)
	put(read, line, e)
	return fmt.Sprint(all...)
}

// Z2, Z7: arguments stay as they are, what is behind their ends is not looked at, and the results are the same each time.
func TestArgumentsStay(t *testing.T) {
	first := everything(someValues())
	v := someValues()
	v.panels = append(v.panels, api.Panel{Key: "behind"})
	v.a, v.b = append(v.a, api.Mark{Panel: "behind"}), append(v.b, api.Mark{Panel: "behind"})
	v.pairs = append(v.pairs, api.Pairing{A: -1})
	v.repairs = append(v.repairs, api.Repair{Kind: -1})
	v.reports = append(v.reports, api.Report{At: -1})
	v.weights = append(v.weights, -1)
	v.hires = append(v.hires, api.Hire{Key: "behind"})
	v.reports[1].Marks = append(v.reports[1].Marks, api.Mark{Panel: "behind"})[:1]
	v.hires[0].Legs = append(v.hires[0].Legs, api.Leg{Vehicle: "behind"})[:1]
	v.shares, v.waivers = append(v.shares, share("behind", -1)), append(v.waivers, waiver("behind", -1))
	whole := fmt.Sprint(v)
	short := values{v.panels[:3], v.a[:4], v.b[:4], v.pairs[:2], v.repairs[:5], v.reports[:7], v.weights[:3], v.hires[:3], v.shares[:3], v.waivers[:1]}
	for range 20 {
		is(t, "again", everything(short), first)
	}
	is(t, "arguments", fmt.Sprint(v), whole)
	is(t, "behind the marks", v.reports[1].Marks[:2][1].Panel, "behind")
	is(t, "behind the legs", v.hires[0].Legs[:2][1].Vehicle, "behind")
}

// Z2: groups, and shares, are new memory.
func TestResultsAreNew(t *testing.T) {
	l := []api.Mark{put("door", dent, 0, 0, 1), put("door", dent, 500, 0, 1), put("door", chip, 0, 0, 1), put("door", chip, 500, 0, 1)}
	groups, _ := mark.Groups(panels(), rules(), l)
	_ = append(groups[0], 99)
	groups[0][0] = 77
	sameLists(t, "groups", groups[1:], [][]int{{1, 3}})
	again, _ := mark.Groups(panels(), rules(), l)
	sameLists(t, "again", again, [][]int{{0, 2}, {1, 3}})
	shares := []api.Share{share("h1", 5)}
	paid, _, _ := mark.Excess(shares, nil)
	paid[0].Cents = 7
	same(t, "shares", shares, []api.Share{share("h1", 5)})
	weights := []int{3, 4}
	parts, _ := mark.Split(7, weights)
	parts[0] = 9
	same(t, "weights", weights, []int{3, 4})
}

// Z1: functions without objects can be called by any number of goroutines at once.
func TestManyAtOnce(t *testing.T) {
	v := someValues()
	want := everything(v)
	got := make([]string, 8)
	var group sync.WaitGroup
	for i := range got {
		group.Go(func() { got[i] = everything(v) })
	}
	group.Wait()
	for _, text := range got {
		is(t, "at once", text, want)
	}
}

// Z1, Z3: nothing panics, and with an error other results are zero values, whatever the numbers are.
func TestAnyNumbers(t *testing.T) {
	r := rand.New(rand.NewSource(29))
	number := func() int {
		return []int{least, -1, 0, 1, 2, 5, 10, 100, api.MaxSide, api.MaxCents, api.End, greatest}[r.Intn(12)]
	}
	word := func() string { return []string{"", "door", "hood", "B", "v1"}[r.Intn(5)] }
	someMark := func(int) api.Mark { return put(word(), r.Intn(6), number(), number(), number()) }
	zero := func(what string, e api.Errno, none bool) {
		t.Helper()
		is(t, what, e != api.OK && !none, false)
	}
	for range 10_000 {
		p := []api.Panel{{Key: word(), Width: number(), Height: number(), Price: number()}}
		rules := api.Rules{Near: number(), Slack: number(), Join: number(), Part: number()}
		a, b := many(r.Intn(3), someMark), many(r.Intn(3), someMark)
		if r.Intn(2) == 0 {
			p, rules, a, b = panels(), api.Rules{Near: api.MaxSide, Slack: api.MaxSize, Join: api.MaxSide, Part: 1000}, older(), newer()
		}
		numbers := many(r.Intn(6), func(int) int { return number() })
		pairs, e := mark.Match(p, rules, a, b)
		zero("Match", e, len(pairs) == 0)
		n, e := mark.Apart(p, rules, a, b, []api.Pairing{{A: number(), B: number()}, {A: number(), B: number()}})
		zero("Apart", e, n == 0)
		l, e := mark.News(p, rules, a, b)
		zero("News", e, len(l) == 0)
		l, e = mark.Grown(p, rules, a, b)
		zero("Grown", e, len(l) == 0)
		l, e = mark.Gone(p, rules, a, b)
		zero("Gone", e, len(l) == 0)
		groups, e := mark.Groups(p, rules, a)
		zero("Groups", e, len(groups) == 0)
		repairs := []api.Repair{{Kind: r.Intn(6), From: number(), Cents: number()}}
		n, e = mark.Price(repairs, someMark(0))
		zero("Price", e, n == 0)
		l, n, e = mark.Estimate(p, rules, repairs, a)
		zero("Estimate", e, len(l) == 0 && n == 0)
		n, m, e := mark.First(p, rules, []api.Report{{At: number(), Marks: a}, {At: number(), Marks: b}}, number(), number())
		zero("First", e, n == 0 && m == 0)
		l, e = mark.Split(number(), numbers)
		zero("Split", e, len(l) == 0)
		shares, e := mark.Blame(word(), api.Window{From: number(), To: number()}, slices.Concat(blamed(), []api.Hire{had("x", from(number(), number()), word())}), number())
		zero("Blame", e, len(shares) == 0)
		shares, n, e = mark.Excess([]api.Share{share(word(), number())}, []api.Waiver{waiver(word(), number())})
		zero("Excess", e, len(shares) == 0 && n == 0)
		s, e := mark.Draw(p[0], number(), a)
		zero("Draw", e, s == "")
		s, e = mark.Text(a)
		zero("Text", e, s == "")
	}
}
