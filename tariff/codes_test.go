package tariff_test

import (
	"fmt"
	"math"
	"math/rand"
	"slices"
	"testing"

	"forecourt/api"
	"forecourt/tariff"
)

func codes() []api.Code {
	return []api.Code{
		{Key: "all", To: 4001, Days: 1, Permille: 100},
		{Key: "big", Class: "midi", To: 4001, Days: 1, Permille: 300},
		{Key: "long", To: 4001, Days: 3, Permille: 200},
		{Key: "never", From: 5, To: 5, Days: 1, Permille: 1000},
		{Key: "spring", From: 5, To: 9, Days: 1, Permille: 500},
		{Key: "tenth", To: 4001, Days: 1, Permille: 100},
	}
}

// P2.4
func TestCheckCodes(t *testing.T) {
	numbered := func(i int) api.Code { return api.Code{Key: key(i), Days: 1, Permille: 1} }
	one := func(from, to, days, permille int) []api.Code {
		return []api.Code{{Key: "b", From: from, To: to, Days: days, Permille: permille}}
	}
	b := one(0, 1, 1, 1)[0]
	runChecks(t, tariff.CheckCodes, []check[api.Code]{
		{"none", nil, api.OK},
		{"ordinary", codes(), api.OK},
		{"MaxCodes", many(api.MaxCodes, numbered), api.OK},
		{"more", many(api.MaxCodes+1, numbered), api.ErrLarge},
		{"large before name", make([]api.Code, api.MaxCodes+1), api.ErrLarge},
		{"no key", []api.Code{{}}, api.ErrName},
		{"longer key", []api.Code{{Key: longerKey, Days: 1, Permille: 1}}, api.ErrName},
		{"name before order", []api.Code{b, {Key: "A"}}, api.ErrName},
		{"same key", []api.Code{b, b}, api.ErrOrder},
		{"lesser key", []api.Code{b, {Key: "a"}}, api.ErrOrder},
		{"order before class", []api.Code{b, {Key: "a", Class: "A"}}, api.ErrOrder},
		{"class", []api.Code{{Key: "b", Class: "A", Days: 1, Permille: 1}}, api.ErrName},
		{"class before numbers", []api.Code{{Key: "b", Class: "A", From: -1}}, api.ErrName},
		{"numbers before the next name", []api.Code{{Key: "b", From: -1}, {}}, api.ErrArg},
		{"all days", one(0, api.MaxDay+1, 1, 1), api.OK},
		{"To above", one(0, api.MaxDay+2, 1, 1), api.ErrArg},
		{"From is To", one(5, 5, 1, 1), api.OK},
		{"at the end", one(api.MaxDay+1, api.MaxDay+1, 1, 1), api.OK},
		{"From behind To", one(6, 5, 1, 1), api.ErrArg},
		{"From below", one(-1, 5, 1, 1), api.ErrArg},
		{"least and greatest", one(math.MinInt, math.MaxInt, 1, 1), api.ErrArg},
		{"greatest and least", one(math.MaxInt, math.MinInt, 1, 1), api.ErrArg},
		{"MaxDays", one(0, 1, api.MaxDays, 1), api.OK},
		{"Days above", one(0, 1, api.MaxDays+1, 1), api.ErrArg},
		{"Days below", one(0, 1, 0, 1), api.ErrArg},
		{"all of it", one(0, 1, 1, 1000), api.OK},
		{"Permille above", one(0, 1, 1, 1001), api.ErrArg},
		{"Permille below", one(0, 1, 1, 0), api.ErrArg},
	})
}

// P2.4
func TestBestCode(t *testing.T) {
	const d = api.DayLong
	cases := []struct {
		what  string
		keys  []string
		class string
		w     api.Window
		cents int
		best  string
		off   int
	}{
		{"none is asked for", nil, "mini", span(0, d), 999, "", 0},
		{"rounded down", []string{"all"}, "mini", span(0, d), 999, "all", 99},
		{"the most", []string{"all", "long"}, "mini", span(0, 2*d+1), 1000, "long", 200},
		{"in another order", []string{"long", "all"}, "mini", span(0, 2*d+1), 1000, "long", 200},
		{"enough days", []string{"long"}, "mini", span(0, 2*d+1), 1000, "long", 200},
		{"a day too few", []string{"long"}, "mini", span(0, 2*d), 1000, "", 0},
		{"a day too few for the best", []string{"all", "long"}, "mini", span(0, 2*d), 1000, "all", 100},
		{"another class", []string{"big"}, "mini", span(0, d), 1000, "", 0},
		{"its class", []string{"all", "big"}, "midi", span(0, d), 1000, "big", 300},
		{"a class without rates", []string{"all"}, "boat", span(0, d), 1000, "all", 100},
		{"the least key", []string{"tenth", "all"}, "mini", span(0, d), 1000, "all", 100},
		{"the least key of those that are rounded", []string{"tenth", "long", "all"}, "mini", span(0, 3*d), 4, "all", 0},
		{"it counts, and takes nothing off", []string{"tenth"}, "mini", span(0, d), 9, "tenth", 0},
		{"nothing to take off", []string{"tenth"}, "mini", span(0, d), 0, "tenth", 0},
		{"before its days", []string{"spring"}, "mini", span(5*d-1, d), 1000, "", 0},
		{"its first day", []string{"spring"}, "mini", span(5*d, d), 1000, "spring", 500},
		{"its last day", []string{"spring"}, "mini", span(9*d-1, d), 1000, "spring", 500},
		{"behind its days", []string{"spring"}, "mini", span(9*d, d), 1000, "", 0},
		{"on no day", []string{"never"}, "mini", span(5*d, d), 1000, "", 0},
		{"greatest", []string{"spring"}, "mini", span(5*d, d), api.MaxCents, "spring", api.MaxCents / 2},
	}
	for _, c := range cases {
		best, off, e := tariff.BestCode(codes(), c.keys, c.class, c.w, c.cents)
		is(t, c.what, best, c.best)
		is(t, c.what, off, c.off)
		is(t, c.what, e, api.OK)
	}
}

// P2.4: each case has errors that come later, too.
func TestBestCodeErrors(t *testing.T) {
	l := many(api.MaxAsked+1, func(i int) api.Code { return api.Code{Key: key(i), Days: 1, Permille: 1} })
	asked := many(api.MaxAsked+1, key)
	cases := []struct {
		what  string
		l     []api.Code
		keys  []string
		class string
		w     api.Window
		cents int
		want  api.Errno
	}{
		{"codes", []api.Code{{}}, make([]string, api.MaxAsked+1), "", api.Window{}, -1, api.ErrName},
		{"many keys", l, append(slices.Clone(asked), "x"), "", api.Window{}, -1, api.ErrLarge},
		{"one too many", l, asked, "", api.Window{}, -1, api.ErrLarge},
		{"no such code", l, []string{asked[0], "x", asked[0]}, "", api.Window{}, -1, api.ErrNone},
		{"empty", l, []string{""}, "", api.Window{}, -1, api.ErrNone},
		{"twice", l, []string{asked[0], asked[1], asked[0], "x"}, "", api.Window{}, -1, api.ErrTwice},
		{"unknown twice", l, []string{"x", "x"}, "", api.Window{}, -1, api.ErrNone},
		{"class", l, asked[:api.MaxAsked], "", api.Window{}, -1, api.ErrName},
		{"class is no key", l, nil, "Mini", longWindow(), -1, api.ErrName},
		{"time", l, nil, "mini", api.Window{}, -1, api.ErrArg},
		{"long", l, nil, "mini", longWindow(), -1, api.ErrLarge},
		{"cents below", l, nil, "mini", span(0, 1), -1, api.ErrArg},
		{"cents above", l, nil, "mini", span(0, 1), api.MaxCents + 1, api.ErrArg},
		{"greatest cents", l, nil, "mini", span(0, 1), math.MaxInt, api.ErrArg},
		{"MaxAsked", l, asked[:api.MaxAsked], "mini", span(0, 1), api.MaxCents, api.OK},
	}
	for _, c := range cases {
		best, off, e := tariff.BestCode(c.l, c.keys, c.class, c.w, c.cents)
		is(t, c.what, e, c.want)
		if e != api.OK {
			is(t, c.what, best, "")
			is(t, c.what, off, 0)
		}
	}
}

// P2.4: of the codes that count none takes more off, and none with a lesser key as much.
func TestBestCodeAtRandom(t *testing.T) {
	r := rand.New(rand.NewSource(6))
	for range 2000 {
		l := many(8, func(i int) api.Code {
			from := r.Intn(6)
			return api.Code{Key: key(i), Class: []string{"", "mini", "midi"}[r.Intn(3)], From: from, To: from + r.Intn(9), Days: 1 + r.Intn(4), Permille: 1 + r.Intn(9)}
		})
		var keys []string
		for _, i := range r.Perm(8)[:r.Intn(8)] {
			keys = append(keys, key(i))
		}
		w, cents := someWindow(r, 5), r.Intn(600)
		days, _ := tariff.Days(w)
		best, most := "", 0
		for _, c := range l {
			day := w.From / api.DayLong
			counts := (c.Class == "" || c.Class == "mini") && c.From <= day && day < c.To && days >= c.Days && slices.Contains(keys, c.Key)
			if off := cents * c.Permille / 1000; counts && (best == "" || off > most) {
				best, most = c.Key, off
			}
		}
		got, off, e := tariff.BestCode(l, keys, "mini", w, cents)
		what := fmt.Sprint(l, keys, w, cents)
		is(t, what, got, best)
		is(t, what, off, most)
		is(t, what, e, api.OK)
	}
}
