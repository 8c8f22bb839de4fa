package tariff_test

import (
	"fmt"
	"math"
	"math/rand"
	"testing"

	"forecourt/api"
	"forecourt/tariff"
)

// P2.1
func TestCheckRates(t *testing.T) {
	season := func(class string, from, to int) api.Rate { return api.Rate{Class: class, From: from, To: to} }
	daily := func(i int) api.Rate { return season("a", i, i+1) }
	runChecks(t, tariff.CheckRates, []check[api.Rate]{
		{"none", nil, api.OK},
		{"ordinary", rates(), api.OK},
		{"MaxRates", many(api.MaxRates, daily), api.OK},
		{"more", many(api.MaxRates+1, daily), api.ErrLarge},
		{"large before name", make([]api.Rate, api.MaxRates+1), api.ErrLarge},
		{"longest key", []api.Rate{season(longKey, 0, 1)}, api.OK},
		{"longer key", []api.Rate{season(longerKey, 0, 1)}, api.ErrName},
		{"no key", []api.Rate{season("", 0, 1)}, api.ErrName},
		{"name before season", []api.Rate{season("A", 1, 0)}, api.ErrName},
		{"all days", []api.Rate{season("a", 0, api.MaxDay+1)}, api.OK},
		{"the last day", []api.Rate{season("a", api.MaxDay, api.MaxDay+1)}, api.OK},
		{"To behind it", []api.Rate{season("a", 0, api.MaxDay+2)}, api.ErrArg},
		{"From below 0", []api.Rate{season("a", -1, 1)}, api.ErrArg},
		{"From is To", []api.Rate{season("a", 5, 5)}, api.ErrArg},
		{"From behind To", []api.Rate{season("a", 6, 5)}, api.ErrArg},
		{"least To", []api.Rate{season("a", 0, math.MinInt)}, api.ErrArg},
		{"greatest To", []api.Rate{season("a", 0, math.MaxInt)}, api.ErrArg},
		{"least and greatest", []api.Rate{season("a", math.MinInt, math.MaxInt)}, api.ErrArg},
		{"season before order", []api.Rate{season("b", 0, 1), season("a", 1, 1)}, api.ErrArg},
		{"lesser class", []api.Rate{season("b", 0, 1), season("a", 2, 3)}, api.ErrOrder},
		{"lesser From", []api.Rate{season("a", 5, 6), season("a", 3, 4)}, api.ErrOrder},
		{"same From", []api.Rate{season("a", 5, 6), season("a", 5, 7)}, api.ErrOrder},
		{"greater class, lesser From", []api.Rate{season("a", 5, 6), season("b", 0, 1)}, api.OK},
		{"seasons touch", []api.Rate{season("a", 0, 5), season("a", 5, 6)}, api.OK},
		{"seasons overlap", []api.Rate{season("a", 0, 6), season("a", 5, 7)}, api.ErrConflict},
		{"of different classes", []api.Rate{season("a", 0, 6), season("b", 5, 7)}, api.OK},
		{"order before overlap", []api.Rate{season("a", 3, 6), season("a", 2, 7)}, api.ErrOrder},
		{"overlap before the next name", []api.Rate{season("a", 0, 6), season("a", 5, 7), season("", 0, 1)}, api.ErrConflict},
	})
}

// P2.1
func TestCheckPrices(t *testing.T) {
	fields := []func(*api.Rate) *int{
		func(r *api.Rate) *int { return &r.Hour },
		func(r *api.Rate) *int { return &r.Day },
		func(r *api.Rate) *int { return &r.Weekend },
		func(r *api.Rate) *int { return &r.Week },
	}
	for i, field := range fields {
		for price, want := range map[int]api.Errno{-1: api.OK, 0: api.OK, api.MaxRate: api.OK, -2: api.ErrArg, api.MaxRate + 1: api.ErrArg, math.MinInt: api.ErrArg, math.MaxInt: api.ErrArg} {
			l := []api.Rate{{Class: "b", To: 1}, {Class: "c", To: 1}}
			*field(&l[1]) = price
			is(t, fmt.Sprint("field ", i, ", price ", price), tariff.CheckRates(l), want)
			l[1].Class = "a"
			if want == api.OK {
				want = api.ErrOrder
			}
			is(t, fmt.Sprint("before order: field ", i, ", price ", price), tariff.CheckRates(l), want)
		}
	}
}

// P2.1
func TestDays(t *testing.T) {
	cases := []struct {
		w    api.Window
		want int
	}{
		{span(0, 1), 1},
		{span(0, api.DayLong), 1},
		{span(0, api.DayLong+1), 2},
		{span(5040, 2*api.DayLong), 2},
		{span(719, 3*api.DayLong-1), 3},
		{span(7, (api.MaxDays-1)*api.DayLong+1), api.MaxDays},
		{span(7, api.MaxDays*api.DayLong), api.MaxDays},
		{api.Window{From: api.End - 2, To: api.End - 1}, 1},
	}
	for _, c := range cases {
		days, e := tariff.Days(c.w)
		is(t, fmt.Sprint(c.w), days, c.want)
		is(t, fmt.Sprint(c.w), e, api.OK)
	}
	for _, w := range badWindows() {
		days, e := tariff.Days(w)
		is(t, fmt.Sprint(w), days, 0)
		is(t, fmt.Sprint(w), e, api.ErrArg)
	}
	for _, w := range []api.Window{longWindow(), {From: 0, To: api.End - 1}} {
		days, e := tariff.Days(w)
		is(t, "long", days, 0)
		is(t, "long", e, api.ErrLarge)
	}
}

// P2.1
func TestRateOn(t *testing.T) {
	l := rates()
	cases := []struct {
		class string
		day   int
		want  api.Rate
		e     api.Errno
	}{
		{"mini", 0, l[3], api.OK},
		{"mini", api.MaxDay, l[3], api.OK},
		{"midi", 2, l[1], api.OK},
		{"midi", 8, l[1], api.OK},
		{"midi", 10, l[2], api.OK},
		{"midi", 19, l[2], api.OK},
		{"midi", 1, api.Rate{}, api.ErrNone},
		{"midi", 9, api.Rate{}, api.ErrNone},
		{"midi", 20, api.Rate{}, api.ErrNone},
		{"van", 5, api.Rate{}, api.ErrNone},
		{"mini", -1, api.Rate{}, api.ErrArg},
		{"mini", api.MaxDay + 1, api.Rate{}, api.ErrArg},
		{"van", math.MaxInt, api.Rate{}, api.ErrArg},
		{"Mini", -1, api.Rate{}, api.ErrName},
		{"", 5, api.Rate{}, api.ErrName},
	}
	for _, c := range cases {
		what := fmt.Sprint(c.class, " on ", c.day)
		rate, e := tariff.RateOn(l, c.class, c.day)
		is(t, what, rate, c.want)
		is(t, what, e, c.e)
	}
	rate, e := tariff.RateOn(badRates(), "", -1)
	is(t, "rates first", rate, api.Rate{})
	is(t, "rates first", e, badRatesError)
}

// P2.1: RateOn has the one rate whose season has the day.
func TestRateOnAtRandom(t *testing.T) {
	r := rand.New(rand.NewSource(1))
	for range 100 {
		l := someRates(r, 30)
		mustCheck(t, l)
		for day := range 45 {
			var want api.Rate
			e := api.ErrNone
			for _, rate := range l {
				if rate.Class == "mini" && rate.From <= day && day < rate.To {
					want, e = rate, api.OK
				}
			}
			got, e2 := tariff.RateOn(l, "mini", day)
			is(t, "rate", got, want)
			is(t, "rate", e2, e)
		}
	}
}
