package toll_test

import (
	"fmt"
	"math/rand"
	"testing"

	"forecourt/api"
	"forecourt/toll"
)

// P6.5
func TestCheckNotices(t *testing.T) {
	some := func(count int) []api.Notice {
		return many(count, func(i int) api.Notice { return notice(key(i), "AB1", 5, 6) })
	}
	with := func(at, came, cents int) []api.Notice {
		return []api.Notice{{Key: "n1", Plate: "AB1", At: at, Came: came, Cents: cents}}
	}
	runChecks(t, toll.CheckNotices, []check[api.Notice]{
		{"none", nil, api.OK},
		{"some", notices(), api.OK},
		{"MaxNotices", some(api.MaxNotices), api.OK},
		{"more", some(api.MaxNotices + 1), api.ErrLarge},
		{"large before all", append([]api.Notice{{}}, some(api.MaxNotices)...), api.ErrLarge},
		{"no key", []api.Notice{notice("", "AB1", 5, 6)}, api.ErrName},
		{"longest key", []api.Notice{notice(longKey, "AB1", 5, 6)}, api.OK},
		{"longer key", []api.Notice{notice(longerKey, "AB1", 5, 6)}, api.ErrName},
		{"capital letter", []api.Notice{notice("n1", "AB1", 5, 6), notice("N1", "AB1", 5, 6)}, api.ErrName},
		{"same key", []api.Notice{notice("n1", "AB1", 5, 6), notice("n1", "AB2", 6, 7)}, api.ErrOrder},
		{"lesser key", []api.Notice{notice("n2", "AB1", 5, 6), notice("n1", "AB2", 6, 7)}, api.ErrOrder},
		{"order before plate", []api.Notice{notice("n2", "AB1", 5, 6), notice("n1", "ab", 6, 7)}, api.ErrOrder},
		{"no plate", []api.Notice{notice("n1", "", 5, 6)}, api.ErrForm},
		{"shortest plate", []api.Notice{notice("n1", "A1", 5, 6)}, api.OK},
		{"long plate", []api.Notice{notice("n1", "ABCDEFGHIJ1", 5, 6)}, api.ErrForm},
		{"plate before moments", []api.Notice{notice("n1", "ab", -1, -1)}, api.ErrForm},
		{"at once", with(5, 5, 0), api.OK},
		{"came before", with(5, 4, 0), api.ErrArg},
		{"at 0", with(0, 0, 0), api.OK},
		{"At below 0", with(-1, 5, 0), api.ErrArg},
		{"both below 0", with(-1, -1, 0), api.ErrArg},
		{"least At", with(least, 5, 0), api.ErrArg},
		{"the last moment", with(api.End-1, api.End-1, 0), api.OK},
		{"Came after it", with(5, api.End, 0), api.ErrArg},
		{"both after it", with(api.End, api.End, 0), api.ErrArg},
		{"greatest Came", with(5, greatest, 0), api.ErrArg},
		{"cents below 0", with(5, 6, -1), api.ErrArg},
		{"MaxRate", with(5, 6, api.MaxRate), api.OK},
		{"more cents", with(5, 6, api.MaxRate+1), api.ErrArg},
		{"least cents", with(5, 6, least), api.ErrArg},
		{"greatest cents", with(5, 6, greatest), api.ErrArg},
		{"cents before the next one", append(with(5, 6, -1), notice("", "ab", 5, 6)), api.ErrArg},
		{"same plate and moments", []api.Notice{notice("n1", "AB1", 5, 6), notice("n2", "AB1", 5, 6)}, api.OK},
		{"earlier", []api.Notice{notice("n1", "AB1", 5, 6), notice("n2", "AA1", 1, 2)}, api.OK},
	})
}

// P6.5
func TestCheckNoticeRules(t *testing.T) {
	cases := []struct {
		name, pay, step, late int
		want                  api.Errno
	}{
		{0, 0, 1, 0, api.OK},
		{api.MaxDay, api.MaxDay, api.MaxDay, api.MaxRate, api.OK},
		{-1, 0, 1, 0, api.ErrArg},
		{api.MaxDay + 1, 0, 1, 0, api.ErrArg},
		{0, -1, 1, 0, api.ErrArg},
		{0, api.MaxDay + 1, 1, 0, api.ErrArg},
		{0, 0, 0, 0, api.ErrArg},
		{0, 0, -1, 0, api.ErrArg},
		{0, 0, api.MaxDay + 1, 0, api.ErrArg},
		{0, 0, 1, -1, api.ErrArg},
		{0, 0, 1, api.MaxRate + 1, api.ErrArg},
		{least, 0, 1, 0, api.ErrArg},
		{0, greatest, 1, 0, api.ErrArg},
		{0, 0, greatest, 0, api.ErrArg},
		{0, 0, 1, greatest, api.ErrArg},
	}
	for _, c := range cases {
		is(t, fmt.Sprint(c), toll.CheckNoticeRules(api.NoticeRules{Name: c.name, Pay: c.pay, Step: c.step, Late: c.late}), c.want)
	}
}

func named(notice, hire, driver string, by int) api.Named {
	return api.Named{Notice: notice, Hire: hire, Driver: driver, By: by}
}

// P6.5
func TestNames(t *testing.T) {
	const day = api.DayLong
	cases := []struct {
		what string
		name int
		l    []api.Notice
		want []api.Named
	}{
		{"none", 10, nil, nil},
		{"some", 10, notices(), []api.Named{named("n1", "h1", "ann", 12*day-1), named("n3", "h2", "bob", 21*day-1)}},
		{"a hire begins", 1, []api.Notice{notice("n1", "AB1", 99, 100), notice("n2", "AB1", 100, 100)}, []api.Named{named("n2", "h1", "ann", 2*day-1)}},
		{"and ends", 1, []api.Notice{notice("n1", "AB1", 299, 300), notice("n2", "AB1", 300, 300)}, []api.Named{named("n1", "h1", "ann", 2*day-1)}},
		{"a plate that changes", 1, []api.Notice{notice("n1", "CD2", 499, 900), notice("n2", "CD2", 500, 900), notice("n3", "AB1", 500, 900)}, []api.Named{named("n1", "h1", "ann", 2*day-1), named("n3", "h1", "ann", 2*day-1)}},
		{"no hire, and no vehicle", 1, []api.Notice{notice("n1", "EF3", 150, 900), notice("n2", "ZZ9", 150, 900)}, nil},
		{"the least hire", 1, []api.Notice{notice("n1", "AB1", 650, 900), notice("n2", "AB1", 660, 900)}, []api.Named{named("n1", "g1", "ann", 2*day-1), named("n2", "h2", "bob", 2*day-1)}},
		{"one driver twice", 0, []api.Notice{notice("n1", "AB1", 150, day-1), notice("n2", "AB1", 151, day)}, []api.Named{named("n1", "h1", "ann", day-1), named("n2", "h1", "ann", 2*day-1)}},
		{"until the last day", 10, []api.Notice{notice("n1", "AB1", 150, (api.MaxDay-10)*day)}, []api.Named{named("n1", "h1", "ann", api.End-1)}},
		{"a day less", 10, []api.Notice{notice("n1", "AB1", 150, (api.MaxDay-10)*day-1)}, []api.Named{named("n1", "h1", "ann", api.End-day-1)}},
		{"after the last day", 10, []api.Notice{notice("n1", "AB1", 150, (api.MaxDay-9)*day)}, []api.Named{named("n1", "h1", "ann", api.End-1)}},
		{"the last moment", api.MaxDay, []api.Notice{notice("n1", "AB1", 150, api.End-1)}, []api.Named{named("n1", "h1", "ann", api.End-1)}},
	}
	for _, c := range cases {
		r := noticeRules()
		r.Name = c.name
		l, e := toll.Names(fleet(), hires(), r, c.l)
		same(t, c.what, l, c.want)
		is(t, c.what, e, api.OK)
	}
}

// P6.5
func TestNamesErrors(t *testing.T) {
	inOrder(t, "Names", func(v values) api.Errno {
		_, e := toll.Names(v.fleet, v.hires, v.noticeRules, v.notices)
		return e
	}, badFleet, badHires, badNoticeRules, badNotices)
	// Those with an even number have a hire.
	some := func(count int) []api.Notice {
		return many(count, func(i int) api.Notice { return notice(key(i), []string{"AB1", "EF3"}[i%2], 150, 200) })
	}
	l, e := toll.Names(fleet(), hires(), noticeRules(), some(2*api.MaxNamed))
	is(t, "MaxNamed", len(l), api.MaxNamed)
	is(t, "MaxNamed", e, api.OK)
	l, e = toll.Names(fleet(), hires(), noticeRules(), some(2*api.MaxNamed+1))
	same(t, "more", l, nil)
	is(t, "more", e, api.ErrLarge)
	wrong := some(2*api.MaxNamed + 1)
	wrong[len(wrong)-1].Cents = -1
	l, e = toll.Names(fleet(), hires(), noticeRules(), wrong)
	same(t, "notices before more", l, nil)
	is(t, "notices before more", e, api.ErrArg)
}

// P6.5
func TestNamesAtRandom(t *testing.T) {
	r := rand.New(rand.NewSource(37))
	count := 0
	for range 100 {
		f, hires, rules := someFleet(r), someHires(r), noticeRules()
		drivers := map[string]string{}
		for _, h := range hires {
			drivers[h.Key] = h.Driver
		}
		var want []api.Named
		l := many(r.Intn(40), func(i int) api.Notice {
			n := notice(key(i), somePlate(r), someMoment(r), midnight+60+r.Intn(3*api.DayLong))
			if _, hire := ownerOf(t, f, hires, n.Plate, n.At); hire != "" {
				want = append(want, named(n.Key, hire, drivers[hire], n.Came-n.Came%api.DayLong+11*api.DayLong-1))
			}
			return n
		})
		got, e := toll.Names(f, hires, rules, l)
		same(t, "names", got, want)
		is(t, "names", e, api.OK)
		count += len(got)
	}
	if count < 200 {
		t.Errorf("only %d names", count)
	}
}

// P6.5
func TestDue(t *testing.T) {
	const day = api.DayLong
	n := api.Notice{Key: "n1", Plate: "AB1", At: 200, Came: 10*day + 700, Cents: 2000}
	cases := []struct {
		what  string
		r     api.NoticeRules
		at    int
		cents int
	}{
		{"when it came", noticeRules(), n.Came, 2000},
		{"the last day", noticeRules(), 25*day - 1, 2000},
		{"the next one", noticeRules(), 25 * day, 2500},
		{"the end of the first row", noticeRules(), 32*day - 1, 2500},
		{"the second row", noticeRules(), 32 * day, 3000},
		{"the third row", noticeRules(), 39*day + 5, 3500},
		{"rows of one day", api.NoticeRules{Pay: 2, Step: 1, Late: 30}, 15 * day, 2090},
		{"nothing more", api.NoticeRules{Pay: 2, Step: 1}, 15 * day, 2000},
		{"at once, on the same day", api.NoticeRules{Step: 5, Late: 30}, 11*day - 1, 2000},
		{"at once, on the next day", api.NoticeRules{Step: 5, Late: 30}, 11 * day, 2030},
		{"a long time to pay", api.NoticeRules{Pay: api.MaxDay, Step: 1, Late: 30}, api.End - 1, 2000},
		{"a long row", api.NoticeRules{Step: api.MaxDay, Late: 30}, api.End - 1, 2030},
		{"most", api.NoticeRules{Step: 1, Late: api.MaxRate}, api.End - 1, 2000 + 3990*api.MaxRate},
	}
	for _, c := range cases {
		cents, e := toll.Due(c.r, n, c.at)
		is(t, c.what, cents, c.cents)
		is(t, c.what, e, api.OK)
	}
}

// P6.5: what is due from day to day, by counting the days.
func TestDueDayByDay(t *testing.T) {
	r := rand.New(rand.NewSource(38))
	for range 200 {
		rules := api.NoticeRules{Pay: r.Intn(20), Step: 1 + r.Intn(9), Late: 1 + r.Intn(700)}
		came := r.Intn(50 * api.DayLong)
		n := api.Notice{Key: "n1", Plate: "AB1", At: r.Intn(came + 1), Came: came, Cents: r.Intn(900)}
		want := n.Cents
		for days := range 60 {
			if late := days - rules.Pay; late > 0 && (late-1)%rules.Step == 0 {
				want += rules.Late
			}
			day := came/api.DayLong + days
			cents, e := toll.Due(rules, n, max(came, day*api.DayLong+r.Intn(api.DayLong)))
			is(t, "due", cents, want)
			is(t, "due", e, api.OK)
		}
	}
}

// P6.5
func TestDueErrors(t *testing.T) {
	before := fault{"before it came", func(v *values) { v.at = 1999 }, api.ErrState}
	inOrder(t, "Due", func(v values) api.Errno {
		if v.at == someValues().at {
			v.at = 2000
		}
		_, e := toll.Due(v.noticeRules, v.notices[0], v.at)
		return e
	}, badNoticeRules, badNotices, badMoment, before)
	n := notice("n1", "AB1", 150, 2000)
	for at, want := range map[int]api.Errno{2000: api.OK, 1999: api.ErrState, 150: api.ErrState, 0: api.ErrState, -1: api.ErrArg, api.End - 1: api.OK, api.End: api.ErrArg, least: api.ErrArg, greatest: api.ErrArg} {
		cents, e := toll.Due(noticeRules(), n, at)
		is(t, fmt.Sprint(at), e, want)
		is(t, fmt.Sprint(at), e != api.OK && cents != 0, false)
	}
}
