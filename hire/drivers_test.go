package hire_test

import (
	"math/rand"
	"testing"

	"forecourt/api"
	"forecourt/hire"
)

// P4.4
func TestCheckDrivers(t *testing.T) {
	numbered := func(i int) api.Driver { return api.Driver{Key: key(i), From: i, To: i + 1} }
	is(t, "none", hire.CheckDrivers(nil), api.OK)
	is(t, "MaxDrivers", hire.CheckDrivers(many(api.MaxDrivers, numbered)), api.OK)
	is(t, "more", hire.CheckDrivers(many(api.MaxDrivers+1, numbered)), api.ErrLarge)
	is(t, "more before wrong ones", hire.CheckDrivers(make([]api.Driver, api.MaxDrivers+1)), api.ErrLarge)
	bounds := []api.Driver{
		{Key: "a", Born: -50_000, From: -50_000, To: -50_000},
		{Key: "b", Born: api.MaxDay, From: 50_000, To: 50_000},
		{Key: longKey, Born: 100, From: 7, To: 7},
	}
	is(t, "bounds", hire.CheckDrivers(bounds), api.OK)
	drivers := func() []api.Driver { return []api.Driver{numbered(1), numbered(2), numbered(3)} }
	second := func(f func(d *api.Driver)) func(l *[]api.Driver) {
		return func(l *[]api.Driver) { f(&(*l)[1]) }
	}
	inOrder(t, drivers, hire.CheckDrivers, []fault[[]api.Driver]{
		{"first wrong", func(l *[]api.Driver) { (*l)[0].To = 50_001 }, api.ErrArg},
		{"no key", second(func(d *api.Driver) { d.Key = "" }), api.ErrName},
		{"longer key", second(func(d *api.Driver) { d.Key = longerKey }), api.ErrName},
		{"same key", second(func(d *api.Driver) { d.Key = key(1) }), api.ErrOrder},
		{"lesser key", second(func(d *api.Driver) { d.Key = key(0) }), api.ErrOrder},
		{"born too early", second(func(d *api.Driver) { d.Born = -50_001 }), api.ErrArg},
		{"born too late", second(func(d *api.Driver) { d.Born = api.MaxDay + 1 }), api.ErrArg},
		{"born first", second(func(d *api.Driver) { d.Born = least }), api.ErrArg},
		{"from too early", second(func(d *api.Driver) { d.From = -50_001 }), api.ErrArg},
		{"from first", second(func(d *api.Driver) { d.From = least }), api.ErrArg},
		{"from behind to", second(func(d *api.Driver) { d.From = d.To + 1 }), api.ErrArg},
		{"to before from", second(func(d *api.Driver) { d.To = d.From - 1 }), api.ErrArg},
		{"to first", second(func(d *api.Driver) { d.To = least }), api.ErrArg},
		{"to too late", second(func(d *api.Driver) { d.To = 50_001 }), api.ErrArg},
		{"to last", second(func(d *api.Driver) { d.To = greatest }), api.ErrArg},
		{"third without a key", func(l *[]api.Driver) { (*l)[2].Key = "" }, api.ErrName},
		{"third lesser than the second one", func(l *[]api.Driver) { (*l)[2].Key = key(2) }, api.ErrOrder},
	})
}

func drivers() []api.Driver {
	return []api.Driver{
		{Key: "ann", Born: -9000, From: 0, To: 100},
		{Key: "bob", Born: -9000, From: 50, To: 4001},
		{Key: "eve", Born: 40, From: -100, To: 4001},
	}
}

func ages() []api.Age {
	return []api.Age{{Class: "maxi", Days: 9001}, {Class: "midi", Days: 3}, {Class: "mini", Days: 0}}
}

// days is a time from the beginning of a day on, to the end of another one.
func days(first, last int) api.Window {
	return api.Window{From: first * api.DayLong, To: (last + 1) * api.DayLong}
}

// P4.4
func TestMay(t *testing.T) {
	cases := []struct {
		what          string
		driver, class string
		w             api.Window
		want          bool
	}{
		{"ordinary", "ann", "mini", days(0, 3), true},
		{"too young", "ann", "maxi", days(0, 3), false},
		{"as old as on the first day", "ann", "maxi", days(1, 3), true},
		{"a minute before", "ann", "maxi", api.Window{From: 1439, To: 1500}, false},
		{"a class without an age", "ann", "van", days(0, 3), true},
		{"the last day of the licence", "ann", "mini", days(98, 99), true},
		{"a minute more", "ann", "mini", api.Window{From: 99 * 1440, To: 100*1440 + 1}, false},
		{"behind the licence", "ann", "mini", days(100, 101), false},
		{"before the licence", "bob", "mini", days(48, 49), false},
		{"it comes on the second day", "bob", "mini", days(49, 50), false},
		{"a minute before it comes", "bob", "mini", api.Window{From: 50*1440 - 1, To: 50*1440 + 9}, false},
		{"the first day of the licence", "bob", "mini", days(50, 50), true},
		{"not born", "eve", "van", days(39, 45), false},
		{"not born, for an age of 0", "eve", "mini", days(39, 45), false},
		{"born today", "eve", "van", days(40, 45), true},
		{"born today, for an age of 0", "eve", "mini", days(40, 45), true},
		{"two days old", "eve", "midi", days(42, 45), false},
		{"three days old", "eve", "midi", days(43, 45), true},
		{"the last day", "eve", "mini", api.Window{From: 4000 * 1440, To: api.End - 1}, true},
	}
	for _, c := range cases {
		got, e := hire.May(drivers(), ages(), c.driver, c.class, c.w)
		is(t, c.what, got, c.want)
		is(t, c.what, e, api.OK)
	}
	got, e := hire.May(drivers(), nil, "ann", "maxi", days(0, 3))
	is(t, "without ages", got, true)
	is(t, "without ages", e, api.OK)
}

// asked is what May is asked.
type asked struct {
	l             []api.Driver
	ages          []api.Age
	driver, class string
	w             api.Window
}

// P4.4
func TestMayErrors(t *testing.T) {
	whole := func() asked { return asked{drivers(), ages(), "ann", "mini", days(0, 3)} }
	check := func(x asked) api.Errno {
		got, e := hire.May(x.l, x.ages, x.driver, x.class, x.w)
		is(t, "with an error", e != api.OK && got, false)
		return e
	}
	numbered := func(i int) api.Age { return api.Age{Class: key(i), Days: i} }
	second := func(f func(a *api.Age)) func(x *asked) { return func(x *asked) { f(&x.ages[1]) } }
	inOrder(t, whole, check, []fault[asked]{
		{"drivers", func(x *asked) { x.l[1].To = 50_001 }, api.ErrArg},
		{"first age", func(x *asked) { x.ages[0].Days = -1 }, api.ErrArg},
		{"no class", second(func(a *api.Age) { a.Class = "" }), api.ErrName},
		{"longer class", second(func(a *api.Age) { a.Class = longerKey }), api.ErrName},
		{"same class", second(func(a *api.Age) { a.Class = "maxi" }), api.ErrOrder},
		{"lesser class", second(func(a *api.Age) { a.Class = "bus" }), api.ErrOrder},
		{"days below 0", second(func(a *api.Age) { a.Days = -1 }), api.ErrArg},
		{"more days", second(func(a *api.Age) { a.Days = 50_001 }), api.ErrArg},
		{"least days", second(func(a *api.Age) { a.Days = least }), api.ErrArg},
		{"third class", func(x *asked) { x.ages[2].Class = "midi" }, api.ErrOrder},
		{"no driver", func(x *asked) { x.driver = "joe" }, api.ErrNone},
		{"empty driver", func(x *asked) { x.driver = "" }, api.ErrNone},
		{"class", func(x *asked) { x.class = "" }, api.ErrName},
		{"Class", func(x *asked) { x.class = "Mini" }, api.ErrName},
		{"no time", func(x *asked) { x.w.To = x.w.From }, api.ErrArg},
		{"time to End", func(x *asked) { x.w.To = api.End }, api.ErrArg},
		{"time from the least int", func(x *asked) { x.w.From = least }, api.ErrArg},
		{"time too long", func(x *asked) { x.w = api.Window{From: 0, To: api.MaxDays*api.DayLong + 1} }, api.ErrLarge},
	})
	x := whole()
	x.ages = many(api.MaxClasses, numbered)
	is(t, "MaxClasses", check(x), api.OK)
	x.ages = many(api.MaxClasses+1, numbered)
	is(t, "more", check(x), api.ErrLarge)
	x.ages[0].Class = ""
	is(t, "more before wrong ones", check(x), api.ErrLarge)
	x.l[0].Key = ""
	is(t, "drivers before more", check(x), api.ErrName)
	x = whole()
	x.ages[2].Days = 50_000
	is(t, "the most days", check(x), api.OK)
	x.l = nil
	is(t, "no drivers", check(x), api.ErrNone)
}

// P4.4
func TestMayAtRandom(t *testing.T) {
	r := rand.New(rand.NewSource(14))
	may := 0
	for range 20_000 {
		d := api.Driver{Key: "ann", Born: r.Intn(10) - 3, From: r.Intn(8) - 2}
		d.To = d.From + r.Intn(10)
		a := api.Age{Class: "mini", Days: r.Intn(5)}
		w := api.Window{From: r.Intn(8 * api.DayLong)}
		w.To = w.From + 1 + r.Intn(3*api.DayLong)
		want := w.From/api.DayLong >= d.Born+a.Days
		for minute := w.From; minute < w.To; minute++ {
			if day := minute / api.DayLong; day < d.From || day >= d.To {
				want = false
				break
			}
		}
		got, e := hire.May([]api.Driver{d}, []api.Age{a}, "ann", "mini", w)
		is(t, "may", got, want)
		is(t, "may", e, api.OK)
		if got {
			may++
		}
	}
	if may < 1000 {
		t.Errorf("only %d may", may)
	}
}
