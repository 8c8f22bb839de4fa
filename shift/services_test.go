package shift_test

import (
	"fmt"
	"math/rand"
	"testing"

	"forecourt/api"
	"forecourt/shift"
)

// P7.4
func TestCheckIntervals(t *testing.T) {
	some := func(count int) []api.Interval {
		return many(count, func(i int) api.Interval { return interval(key(i), 1, 1) })
	}
	with := func(km, days int) []api.Interval { return []api.Interval{interval("oil", km, days)} }
	runChecks(t, shift.CheckIntervals, []check[api.Interval]{
		{"none", nil, api.OK},
		{"some", intervals(), api.OK},
		{"MaxServices", some(api.MaxServices), api.OK},
		{"more", some(api.MaxServices + 1), api.ErrLarge},
		{"large before all", append([]api.Interval{{}}, some(api.MaxServices)...), api.ErrLarge},
		{"no key", []api.Interval{interval("", 1, 1)}, api.ErrName},
		{"longest key", []api.Interval{interval(longKey, 1, 1)}, api.OK},
		{"longer key", []api.Interval{interval(longerKey, 1, 1)}, api.ErrName},
		{"key before order", []api.Interval{interval("oil", 1, 1), interval("Oil", 1, 1)}, api.ErrName},
		{"same kind", []api.Interval{interval("oil", 1, 1), interval("oil", 2, 2)}, api.ErrOrder},
		{"lesser kind", []api.Interval{interval("oil", 1, 1), interval("belt", 2, 2)}, api.ErrOrder},
		{"order before numbers", []api.Interval{interval("oil", 1, 1), interval("belt", -1, -1)}, api.ErrOrder},
		{"only kilometres", with(1, 0), api.OK},
		{"only days", with(0, 1), api.OK},
		{"neither", with(0, 0), api.ErrForm},
		{"Km below 0", with(-1, 1), api.ErrArg},
		{"Days below 0", with(1, -1), api.ErrArg},
		{"numbers before form", with(-1, 0), api.ErrArg},
		{"a day below 0 before form", with(0, -1), api.ErrArg},
		{"most", with(1_000_000, 100_000), api.OK},
		{"more Km", with(1_000_001, 1), api.ErrArg},
		{"more Days", with(1, 100_001), api.ErrArg},
		{"least Km", with(least, 1), api.ErrArg},
		{"greatest Km", with(greatest, 1), api.ErrArg},
		{"least Days", with(1, least), api.ErrArg},
		{"greatest Days", with(1, greatest), api.ErrArg},
		{"form before the next one", append(with(0, 0), interval("", 1, 1)), api.ErrForm},
		{"number before the next one", append(with(0, -1), interval("", 1, 1)), api.ErrArg},
	})
}

// P7.4
func TestCheckServices(t *testing.T) {
	some := func(count int) []api.Serviced {
		return many(count, func(i int) api.Serviced { return serviced("v1", "oil", i, 1) })
	}
	with := func(day, meter int) []api.Serviced { return []api.Serviced{serviced("v1", "oil", day, meter)} }
	runChecks(t, shift.CheckServices, []check[api.Serviced]{
		{"none", nil, api.OK},
		{"some", done(), api.OK},
		{"MaxServices", some(api.MaxServices), api.OK},
		{"more", some(api.MaxServices + 1), api.ErrLarge},
		{"large before all", append([]api.Serviced{{}}, some(api.MaxServices)...), api.ErrLarge},
		{"no vehicle", []api.Serviced{serviced("", "oil", 1, 1)}, api.ErrName},
		{"no kind", []api.Serviced{serviced("v1", "", 1, 1)}, api.ErrName},
		{"longest keys", []api.Serviced{serviced(longKey, longKey, 1, 1)}, api.OK},
		{"longer vehicle", []api.Serviced{serviced(longerKey, "oil", 1, 1)}, api.ErrName},
		{"longer kind", []api.Serviced{serviced("v1", longerKey, 1, 1)}, api.ErrName},
		{"name before numbers", []api.Serviced{serviced("v1", "Oil", -1, -1)}, api.ErrName},
		{"name before order", append(with(5, 1), serviced("V1", "oil", 4, 1)), api.ErrName},
		{"day 0", with(0, 0), api.OK},
		{"before it", with(-1, 0), api.ErrArg},
		{"the last day", with(api.MaxDay, 0), api.OK},
		{"after it", with(api.MaxDay+1, 0), api.ErrArg},
		{"Meter below 0", with(1, -1), api.ErrArg},
		{"most", with(1, 10_000_000), api.OK},
		{"more", with(1, 10_000_001), api.ErrArg},
		{"least day", with(least, 1), api.ErrArg},
		{"greatest day", with(greatest, 1), api.ErrArg},
		{"least Meter", with(1, least), api.ErrArg},
		{"greatest Meter", with(1, greatest), api.ErrArg},
		{"numbers before order", append(with(5, 1), serviced("v1", "oil", 4, -1)), api.ErrArg},
		{"a day before all, and before order", append(with(5, 1), serviced("v1", "oil", -1, 1)), api.ErrArg},
		{"earlier", append(with(5, 1), serviced("v1", "tyres", 4, 1)), api.ErrOrder},
		{"earlier, of another vehicle", append(with(5, 1), serviced("v2", "oil", 4, 1)), api.ErrOrder},
		{"on the same day", append(with(5, 9), serviced("v1", "oil", 5, 1)), api.OK},
		{"names that are less", append(with(5, 9), serviced("a", "a", 6, 1)), api.OK},
		{"order before the next one", append(with(5, 1), serviced("v1", "oil", 4, 1), serviced("", "", 4, 1)), api.ErrOrder},
		{"number before the next one", append(with(5, -1), serviced("", "", 4, 1)), api.ErrArg},
	})
}

func due(kind string, day, km int) api.Due { return api.Due{Kind: kind, Day: day, Km: km} }

// P7.4
func TestDues(t *testing.T) {
	const neverDay, neverKm = api.NeverDay, api.NeverKm
	first := serviced("v1", "new", 10, 100)
	cases := []struct {
		what  string
		l     []api.Interval
		done  []api.Serviced
		first api.Serviced
		meter int
		want  []api.Due
	}{
		{"some", intervals(), done(), first, 6000, []api.Due{due("belt", 110, neverKm), due("oil", 90, 500), due("tyres", neverDay, -900)}},
		{"no intervals", nil, done(), first, 6000, nil},
		{"nothing was done", intervals(), nil, first, 6000, []api.Due{due("belt", 110, neverKm), due("oil", 40, -4900), due("tyres", neverDay, -900)}},
		{"another vehicle", intervals(), done(), serviced("v2", "new", 20, 0), 9, []api.Due{due("belt", 162, neverKm), due("oil", 91, 6591), due("tyres", neverDay, 4991)}},
		{"a vehicle without services", intervals(), done(), serviced("v", "new", 20, 0), 0, []api.Due{due("belt", 120, neverKm), due("oil", 50, 1000), due("tyres", neverDay, 5000)}},
		{"the kind of the first one does not matter", intervals(), done(), serviced("v1", "oil", 70, 100), 6000, []api.Due{due("belt", 170, neverKm), due("oil", 90, 500), due("tyres", neverDay, -900)}},
		{"also before the first one", intervals(), done(), serviced("v1", "new", 70, 5900), 6000, []api.Due{due("belt", 170, neverKm), due("oil", 90, 500), due("tyres", neverDay, 4900)}},
		{"the last one of a day", []api.Interval{interval("oil", 10, 1)}, []api.Serviced{serviced("v1", "oil", 50, 5000), serviced("v1", "oil", 50, 4000)}, first, 4000, []api.Due{due("oil", 51, 10)}},
		{"just due", []api.Interval{interval("oil", 10, 0)}, nil, first, 110, []api.Due{due("oil", neverDay, 0)}},
		{"one behind", []api.Interval{interval("oil", 10, 0)}, nil, first, 111, []api.Due{due("oil", neverDay, -1)}},
		{"the meter goes back", []api.Interval{interval("oil", 10, 0)}, nil, first, 0, []api.Due{due("oil", neverDay, 110)}},
		{"latest", []api.Interval{interval("oil", 1_000_000, 100_000)}, nil, serviced("v1", "new", api.MaxDay, 10_000_000), 0, []api.Due{due("oil", 104_000, 11_000_000)}},
		{"earliest", []api.Interval{interval("oil", 1, 1)}, nil, serviced("v1", "new", 0, 0), 10_000_000, []api.Due{due("oil", 1, -9_999_999)}},
	}
	for _, c := range cases {
		l, e := shift.Dues(c.l, c.done, c.first, c.meter)
		same(t, c.what, l, c.want)
		is(t, c.what, e, api.OK)
	}
	function := func(v values) api.Errno { _, e := shift.Dues(v.intervals, v.done, v.first, v.meter); return e }
	inOrder(t, "Dues", function, badIntervals, badDone, badFirst, badMeter)
	for meter, want := range map[int]api.Errno{-1: api.ErrArg, 0: api.OK, 10_000_000: api.OK, 10_000_001: api.ErrArg, least: api.ErrArg, greatest: api.ErrArg} {
		_, e := shift.Dues(intervals(), done(), first, meter)
		is(t, fmt.Sprint("meter ", meter), e, want)
	}
	for _, s := range []api.Serviced{serviced("v1", "new", -1, 0), serviced("v1", "new", api.MaxDay+1, 0), serviced("v1", "new", 0, -1)} {
		_, e := shift.Dues(intervals(), done(), s, 6000)
		is(t, "first one", e, api.ErrArg)
	}
	_, e := shift.Dues(intervals(), done(), serviced("V1", "new", 0, 0), 6000)
	is(t, "first one", e, api.ErrName)
}

// P7.4: Dues, against services that are looked at from the last one on.
func TestDuesAtRandom(t *testing.T) {
	r := rand.New(rand.NewSource(76))
	kinds := []string{"belt", "oil", "tyres"}
	for range 2000 {
		var l []api.Interval
		for _, kind := range kinds {
			if km, days := r.Intn(3)*r.Intn(99), r.Intn(3)*r.Intn(99); km+days > 0 {
				l = append(l, interval(kind, km, days))
			}
		}
		day := r.Intn(9)
		done := many(r.Intn(9), func(int) api.Serviced {
			day += r.Intn(3)
			return serviced([]string{"v1", "v2"}[r.Intn(2)], kinds[r.Intn(3)], day, r.Intn(999))
		})
		first, meter := serviced("v1", kinds[r.Intn(3)], r.Intn(99), r.Intn(999)), r.Intn(999)
		got, e := shift.Dues(l, done, first, meter)
		is(t, "Dues", e, api.OK)
		same(t, "Dues", got, many(len(l), func(i int) api.Due {
			from := first
			for n := len(done) - 1; n >= 0; n-- {
				if done[n].Vehicle == "v1" && done[n].Kind == l[i].Kind {
					from = done[n]
					break
				}
			}
			d := due(l[i].Kind, from.Day+l[i].Days, from.Meter+l[i].Km-meter)
			if l[i].Days == 0 {
				d.Day = api.NeverDay
			}
			if l[i].Km == 0 {
				d.Km = api.NeverKm
			}
			return d
		}))
	}
}

// P7.4
func TestBy(t *testing.T) {
	const neverDay, neverKm = api.NeverDay, api.NeverKm
	cases := []struct {
		what         string
		l            []api.Due
		today, daily int
		kind         string
		day          int
	}{
		{"the document's test", []api.Due{due("belt", 110, neverKm), due("oil", 80, 100)}, 60, 30, "oil", 63},
		{"by time", []api.Due{due("belt", 110, neverKm)}, 60, 30, "belt", 110},
		{"time first", []api.Due{due("oil", 62, 100)}, 60, 30, "oil", 62},
		{"kilometres first", []api.Due{due("oil", 64, 100)}, 60, 30, "oil", 63},
		{"just a day more", []api.Due{due("oil", 99, 30)}, 60, 30, "oil", 61},
		{"not quite a day", []api.Due{due("oil", 99, 29)}, 60, 30, "oil", 60},
		{"0 kilometres", []api.Due{due("oil", 99, 0)}, 60, 30, "oil", 60},
		{"overdue", []api.Due{due("oil", 99, -1)}, 60, 30, "oil", 60},
		{"long overdue", []api.Due{due("oil", 99, -neverKm)}, 60, 30, "oil", 60},
		{"overdue by time too", []api.Due{due("oil", 40, -1)}, 60, 30, "oil", 40},
		{"overdue by time", []api.Due{due("oil", 0, neverKm)}, 60, 30, "oil", 0},
		{"it stands", []api.Due{due("oil", 99, 1)}, 60, 0, "oil", 99},
		{"it stands, 0 kilometres", []api.Due{due("oil", 99, 0)}, 60, 0, "oil", 99},
		{"it stands, overdue", []api.Due{due("oil", 99, -1)}, 60, 0, "oil", 60},
		{"it stands for ever", []api.Due{due("oil", neverDay, 1)}, 60, 0, "oil", neverDay},
		{"never", []api.Due{due("oil", neverDay, neverKm)}, 60, 30, "oil", neverDay},
		{"far", []api.Due{due("oil", neverDay, neverKm-1)}, api.MaxDay, 1, "oil", neverDay},
		{"just not never", []api.Due{due("oil", neverDay, neverDay-1)}, 0, 1, "oil", neverDay - 1},
		{"of equal ones the first", []api.Due{due("c", 70, neverKm), due("b", 65, neverKm), due("a", 65, neverKm), due("d", 65, 150)}, 60, 30, "b", 65},
		{"the last one", []api.Due{due("c", 70, neverKm), due("b", 65, neverKm), due("a", 64, neverKm)}, 60, 30, "a", 64},
		{"a kind that is no key", []api.Due{due("", 70, neverKm)}, 60, 30, "", 70},
		{"most", []api.Due{due("oil", neverDay, 40_000)}, api.MaxDay, 10_000, "oil", api.MaxDay + 4},
	}
	for _, c := range cases {
		kind, day, e := shift.By(c.l, c.today, c.daily)
		is(t, c.what, kind, c.kind)
		is(t, c.what, day, c.day)
		is(t, c.what, e, api.OK)
	}
}

// P7.4
func TestByErrors(t *testing.T) {
	const neverDay, neverKm = api.NeverDay, api.NeverKm
	some := func(count int) []api.Due {
		return many(count, func(i int) api.Due { return due(key(i), i, i) })
	}
	runChecks(t, func(l []api.Due) api.Errno { _, _, e := shift.By(l, 60, 30); return e }, []check[api.Due]{
		{"none", nil, api.ErrNone},
		{"MaxServices", some(api.MaxServices), api.OK},
		{"more", some(api.MaxServices + 1), api.ErrLarge},
		{"large before all", append([]api.Due{due("oil", -1, 0)}, some(api.MaxServices)...), api.ErrLarge},
		{"Day below 0", []api.Due{due("oil", -1, 0)}, api.ErrArg},
		{"NeverDay", []api.Due{due("oil", neverDay, 0)}, api.OK},
		{"after it", []api.Due{due("oil", neverDay+1, 0)}, api.ErrArg},
		{"least Km", []api.Due{due("oil", 0, -neverKm)}, api.OK},
		{"less", []api.Due{due("oil", 0, -neverKm-1)}, api.ErrArg},
		{"more than NeverKm", []api.Due{due("oil", 0, neverKm+1)}, api.ErrArg},
		{"least", []api.Due{due("oil", least, 0)}, api.ErrArg},
		{"greatest", []api.Due{due("oil", greatest, 0)}, api.ErrArg},
		{"least int for Km", []api.Due{due("oil", 0, least)}, api.ErrArg},
		{"greatest int for Km", []api.Due{due("oil", 0, greatest)}, api.ErrArg},
		{"the second one", []api.Due{due("a", 1, 1), due("b", -1, 1)}, api.ErrArg},
	})
	for _, c := range []struct {
		today, daily int
		want         api.Errno
	}{
		{0, 0, api.OK}, {api.MaxDay, 10_000, api.OK}, {-1, 0, api.ErrArg}, {api.MaxDay + 1, 0, api.ErrArg}, {0, -1, api.ErrArg}, {0, 10_001, api.ErrArg},
		{least, 0, api.ErrArg}, {greatest, 0, api.ErrArg}, {0, least, api.ErrArg}, {0, greatest, api.ErrArg},
	} {
		_, _, e := shift.By([]api.Due{due("oil", 1, 1)}, c.today, c.daily)
		is(t, fmt.Sprint(c), e, c.want)
	}
	function := func(v values) api.Errno { _, _, e := shift.By(v.dues, v.today, v.daily); return e }
	inOrder(t, "By", function, noDues, badToday)
	inOrder(t, "By", function, manyDues, badToday)
}

// P7.4: By, against kilometres that are counted day by day.
func TestByAtRandom(t *testing.T) {
	r := rand.New(rand.NewSource(77))
	for range 3000 {
		today, daily := r.Intn(20), r.Intn(6)
		l := many(1+r.Intn(4), func(i int) api.Due {
			d := due(key(i), r.Intn(60), r.Intn(150)-20)
			if r.Intn(4) == 0 {
				d.Day = api.NeverDay
			}
			if r.Intn(4) == 0 {
				d.Km = api.NeverKm
			}
			return d
		})
		kind, least := "", greatest
		for _, d := range l {
			day := d.Day
			if d.Km < 0 {
				day = min(day, today)
			}
			// On the day on which the kilometres are not enough for another whole day it is due.
			for n, left := today, d.Km; d.Km >= 0 && d.Km != api.NeverKm && daily > 0 && n <= day; n, left = n+1, left-daily {
				if left < daily {
					day = n
				}
			}
			if day < least {
				kind, least = d.Kind, day
			}
		}
		k, day, e := shift.By(l, today, daily)
		is(t, "By", k, kind)
		is(t, "By", day, least)
		is(t, "By", e, api.OK)
	}
}
