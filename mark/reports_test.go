package mark_test

import (
	"math/rand"
	"testing"

	"forecourt/api"
	"forecourt/mark"
)

// reports are some that are right: a dent that wanders, and another one that comes between.
func reports() []api.Report {
	return []api.Report{
		{At: 5, Marks: []api.Mark{put("door", dent, 100, 100, 10)}},
		{At: 9, Marks: []api.Mark{put("door", dent, 90, 100, 10)}},
		{At: 10, Marks: []api.Mark{put("door", dent, 30, 100, 10), put("door", dent, 80, 100, 10), put("hood", chip, 5, 5, 1)}},
		{At: 20, Marks: []api.Mark{put("door", dent, 35, 100, 10), put("door", dent, 71, 100, 10), put("hood", chip, 4, 5, 1)}},
		{At: 30, Marks: []api.Mark{put("door", dent, 60, 100, 10)}},
		{At: 40},
		{At: 50, Marks: []api.Mark{put("door", dent, 60, 100, 10)}},
	}
}

// badReports have an error that no other argument of these tests leads to.
func badReports() []api.Report { return []api.Report{{At: 5}, {At: 5}} }

const badReportsError = api.ErrOrder

// P5.4
func TestCheckReports(t *testing.T) {
	numbered := func(i int) api.Report { return api.Report{At: i} }
	with := func(at int, l []api.Mark) []api.Report { return []api.Report{{At: 7}, {At: at, Marks: l}} }
	runChecks(t, func(l []api.Report) api.Errno { return mark.CheckReports(panels(), l) }, []check[api.Report]{
		{"none", nil, api.OK},
		{"ordinary", reports(), api.OK},
		{"MaxReports", many(api.MaxReports, numbered), api.OK},
		{"more", many(api.MaxReports+1, numbered), api.ErrLarge},
		{"large before what is wrong", make([]api.Report, api.MaxReports+1), api.ErrLarge},
		{"first and last moment", []api.Report{{At: 0}, {At: api.End - 1}}, api.OK},
		{"below", []api.Report{{At: -1}}, api.ErrArg},
		{"End", []api.Report{{At: api.End}}, api.ErrArg},
		{"least int", []api.Report{{At: least}}, api.ErrArg},
		{"greatest int", []api.Report{{At: greatest}}, api.ErrArg},
		{"moment before order", with(-1, nil), api.ErrArg},
		{"the same moment", with(7, nil), api.ErrOrder},
		{"an earlier moment", with(6, nil), api.ErrOrder},
		{"earlier than the one before", append(with(9, nil), api.Report{At: 8}), api.ErrOrder},
		{"order before marks", with(7, badMarks()), api.ErrOrder},
		{"marks", with(8, badMarks()), badMarksError},
		{"too many marks", with(8, make([]api.Mark, api.MaxMarks+1)), api.ErrLarge},
		{"marks before full ones", with(8, append(fullMarks(), badMarks()...)), badMarksError},
		{"marks of no panel", with(8, []api.Mark{put("boot", dent, 1, 1, 1)}), api.ErrNone},
		{"marks beyond a panel", with(8, []api.Mark{put("roof", dent, 30, 1, 1)}), api.ErrArg},
		{"full marks", with(8, fullMarks()), fullMarksError},
		{"marks before the next moment", append(with(8, badMarks()), api.Report{At: -1}), badMarksError},
		{"the first one that is wrong", append(with(8, nil), api.Report{At: 8}, api.Report{At: -1}), api.ErrOrder},
	})
	is(t, "panels first", mark.CheckReports(badPanels(), make([]api.Report, api.MaxReports+1)), badPanelsError)
	is(t, "panels first, without reports", mark.CheckReports(badPanels(), nil), badPanelsError)
}

// P5.4
func TestFirst(t *testing.T) {
	cases := []struct {
		report, mark      int
		first, firstsMark int
	}{
		{0, 0, 0, 0},
		{1, 0, 0, 0},
		{2, 0, 2, 0},
		{2, 1, 0, 0},
		{2, 2, 2, 2},
		{3, 0, 2, 0},
		{3, 1, 0, 0},
		{3, 2, 2, 2},
		{4, 0, 0, 0},
		{6, 0, 6, 0}, // it was gone in between
	}
	for _, c := range cases {
		report, number, e := mark.First(panels(), rules(), reports(), c.report, c.mark)
		is(t, "report", report, c.first)
		is(t, "mark", number, c.firstsMark)
		is(t, "first", e, api.OK)
	}
}

// P5.4
func TestFirstErrors(t *testing.T) {
	call := func(p []api.Panel, r api.Rules, l []api.Report, report, number int) api.Errno {
		report, number, e := mark.First(p, r, l, report, number)
		is(t, "none", report, 0)
		is(t, "none", number, 0)
		return e
	}
	is(t, "rules", call(badPanels(), badRules(), badReports(), -1, -1), badRulesError)
	is(t, "panels", call(badPanels(), rules(), badReports(), -1, -1), badPanelsError)
	is(t, "reports", call(panels(), rules(), badReports(), -1, -1), badReportsError)
	for _, x := range [][2]int{{-1, 0}, {7, 0}, {least, 0}, {greatest, 0}, {2, -1}, {2, 3}, {2, least}, {2, greatest}, {5, 0}, {1, 1}} {
		is(t, "no such mark", call(panels(), rules(), reports(), x[0], x[1]), api.ErrNone)
	}
	is(t, "no reports", call(panels(), rules(), nil, 0, 0), api.ErrNone)
}

// P5.4: going back a step of Match after the other.
func TestFirstAtRandom(t *testing.T) {
	r := rand.New(rand.NewSource(23))
	far := 0
	for range 500 {
		rules := someRules(r)
		l := many(1+r.Intn(6), func(i int) api.Report { return api.Report{At: 10 * i, Marks: someMarks(r, r.Intn(9))} })
		for report, x := range l {
			for number := range x.Marks {
				wantReport, wantNumber := stepBack(rules, l, report, number)
				gotReport, gotNumber, e := mark.First(somePanels(), rules, l, report, number)
				is(t, "report", gotReport, wantReport)
				is(t, "mark", gotNumber, wantNumber)
				is(t, "first", e, api.OK)
				if gotReport < report-1 {
					far++
				}
			}
		}
	}
	if far < 200 {
		t.Errorf("only %d marks went back far", far)
	}
}

func stepBack(r api.Rules, l []api.Report, report, number int) (int, int) {
	if report > 0 {
		pairs, _ := mark.Match(somePanels(), r, l[report-1].Marks, l[report].Marks)
		for _, x := range pairs {
			if x.B == number {
				return stepBack(r, l, report-1, x.A)
			}
		}
	}
	return report, number
}

// P5.4: the most reports with the most marks.
func TestFirstMost(t *testing.T) {
	p, _ := most(0)
	l := many(api.MaxReports, func(i int) api.Report {
		_, marks := most(i % 50)
		return api.Report{At: i, Marks: marks}
	})
	report, number, e := mark.First(p, api.Rules{Near: api.MaxSide, Slack: api.MaxSize}, l, api.MaxReports-1, api.MaxMarks-1)
	is(t, "report", report, 0)
	is(t, "mark", number, api.MaxMarks-1)
	is(t, "first", e, api.OK)
}
