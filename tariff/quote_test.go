package tariff_test

import (
	"fmt"
	"slices"
	"testing"

	"forecourt/api"
	"forecourt/tariff"
)

func whole() api.Tariff {
	return api.Tariff{Rates: rates(), Extras: extras(), Fees: fees(), Codes: codes(), Taxes: []api.Tax{tax("vat", 200, false, 1, 2, 3, 4), tax("city", 500, true)}}
}

func ask() api.Ask {
	return api.Ask{Class: "mini", Time: span(thursdayNoon, 4*api.DayLong+61), A: "s1", B: "s2", Extras: []string{"seat", "chain"}, Codes: []string{"tenth", "long"}}
}

// A step spoils a tariff or an ask a little more; the error that this leads to comes before all that were there.
type step struct {
	what string
	do   func(x *api.Tariff, a *api.Ask)
	want api.Errno
}

// P2.6
func TestCheck(t *testing.T) {
	is(t, "nothing", tariff.Check(api.Tariff{}), api.OK)
	is(t, "ordinary", tariff.Check(whole()), api.OK)
	x := whole()
	for _, s := range []step{
		{"taxes", func(x *api.Tariff, _ *api.Ask) { x.Taxes[1].Key = "vat" }, api.ErrTwice},
		{"codes", func(x *api.Tariff, _ *api.Ask) { x.Codes[0].Days = 0 }, api.ErrArg},
		{"fees", func(x *api.Tariff, _ *api.Ask) { x.Fees[0].B = "s1" }, api.ErrLoop},
		{"extras", func(x *api.Tariff, _ *api.Ask) { x.Extras[0].Key = "" }, api.ErrName},
		{"rates", func(x *api.Tariff, _ *api.Ask) { x.Rates = badRates() }, badRatesError},
	} {
		s.do(&x, nil)
		is(t, s.what, tariff.Check(x), s.want)
	}
}

// P2.6
func TestQuote(t *testing.T) {
	cases := []struct {
		what string
		do   func(x *api.Tariff, a *api.Ask)
		want []api.Line
	}{
		{"all kinds", func(*api.Tariff, *api.Ask) {}, []api.Line{
			line(1, "day", 50), line(1, "weekend", 70), line(1, "hours", 20), line(2, "long", -28), line(3, "seat", 15), line(3, "chain", 7), line(4, "oneway", 40), line(5, "vat", 35), line(5, "city", 18)}},
		{"nothing but a week", func(x *api.Tariff, a *api.Ask) {
			*x = api.Tariff{Rates: rates()}
			*a = api.Ask{Class: "maxi", Time: span(0, 60), A: "s9", B: "s9"}
		}, []api.Line{line(1, "week", 900)}},
		{"extras in their order", func(x *api.Tariff, a *api.Ask) {
			x.Taxes, a.Codes, a.B, a.Extras = nil, nil, "s1", []string{"seat", "gps", "chain"}
			a.Time = span(0, 2*api.DayLong)
		}, []api.Line{line(1, "day", 50), line(1, "day", 50), line(3, "seat", 11), line(3, "gps", 8), line(3, "chain", 7)}},
		{"a code that does not count", func(x *api.Tariff, a *api.Ask) {
			x.Taxes, a.Codes, a.B, a.Extras = nil, []string{"long"}, "s1", nil
			a.Time = span(0, 1)
		}, []api.Line{line(1, "hours", 10)}},
		{"a code that takes nothing off", func(x *api.Tariff, a *api.Ask) {
			x.Taxes, a.Codes, a.B, a.Extras = nil, []string{"all"}, "s1", nil
			x.Rates = []api.Rate{{Class: "mini", To: 9, Day: 9, Hour: -1, Weekend: -1, Week: -1}}
			a.Time = span(0, 1)
		}, []api.Line{line(1, "day", 9), line(2, "all", 0)}},
		{"a code takes from the sum of the pieces alone", func(x *api.Tariff, a *api.Ask) {
			x.Taxes, a.Codes, a.Extras = nil, []string{"all"}, []string{"chain"}
			x.Rates = []api.Rate{{Class: "mini", To: 9, Day: 15, Hour: -1, Weekend: -1, Week: -1}}
			a.Time = span(0, 2*api.DayLong)
		}, []api.Line{line(1, "day", 15), line(1, "day", 15), line(2, "all", -3), line(3, "chain", 7), line(4, "oneway", 40)}},
		{"a fee of 0", func(x *api.Tariff, a *api.Ask) {
			x.Taxes, a.Codes, a.Extras, a.B = nil, nil, nil, "s3"
			a.Time = span(0, 1)
		}, []api.Line{line(1, "hours", 10), line(4, "oneway", 0)}},
	}
	for _, c := range cases {
		x, a := whole(), ask()
		c.do(&x, &a)
		l, e := tariff.Quote(x, a)
		same(t, c.what, l, c.want)
		is(t, c.what, e, api.OK)
		is(t, c.what, tariff.CheckLines(l), api.OK)
	}
}

// P2.6: the errors from the last one to the first one.
func TestQuoteErrors(t *testing.T) {
	x, a := whole(), ask()
	a.Extras, a.Codes = nil, nil
	for _, s := range []step{
		{"no such fee", func(_ *api.Tariff, a *api.Ask) { a.A, a.B = "s2", "s3" }, api.ErrNone},
		{"no station", func(_ *api.Tariff, a *api.Ask) { a.B = "" }, api.ErrName},
		{"no stations", func(_ *api.Tariff, a *api.Ask) { a.A = "" }, api.ErrName},
		{"a code twice", func(_ *api.Tariff, a *api.Ask) { a.Codes = []string{"all", "all", "none"} }, api.ErrTwice},
		{"no such code", func(_ *api.Tariff, a *api.Ask) { a.Codes[0] = "none" }, api.ErrNone},
		{"many codes", func(_ *api.Tariff, a *api.Ask) { a.Codes = make([]string, api.MaxAsked+1) }, api.ErrLarge},
		{"no division", func(_ *api.Tariff, a *api.Ask) { a.Class = "van" }, api.ErrNone},
		{"long", func(_ *api.Tariff, a *api.Ask) { a.Time = longWindow() }, api.ErrLarge},
		{"time", func(_ *api.Tariff, a *api.Ask) { a.Time = api.Window{} }, api.ErrArg},
		{"class", func(_ *api.Tariff, a *api.Ask) { a.Class = "" }, api.ErrName},
		{"an extra twice", func(_ *api.Tariff, a *api.Ask) { a.Extras = []string{"gps", "seat", "gps", "none"} }, api.ErrTwice},
		{"no such extra", func(_ *api.Tariff, a *api.Ask) { a.Extras[0] = "none" }, api.ErrNone},
		{"many extras", func(_ *api.Tariff, a *api.Ask) { a.Extras = make([]string, api.MaxAsked+1) }, api.ErrLarge},
		{"tariff", func(x *api.Tariff, _ *api.Ask) { x.Rates = badRates() }, badRatesError},
	} {
		s.do(&x, &a)
		l, e := tariff.Quote(x, a)
		same(t, s.what, l, nil)
		is(t, s.what, e, s.want)
	}
}

// P2.6: MaxAsked extras are not too many, and as many codes.
func TestQuoteMost(t *testing.T) {
	x, a := whole(), ask()
	x.Extras = many(api.MaxAsked, func(i int) api.Extra { return api.Extra{Key: key(i), Once: i} })
	x.Codes = many(api.MaxAsked, func(i int) api.Code { return api.Code{Key: key(i), To: 9, Days: 1, Permille: 1 + i} })
	a.Extras, a.Codes = many(api.MaxAsked, key), many(api.MaxAsked, key)
	l, e := tariff.Quote(x, a)
	is(t, "MaxAsked", e, api.OK)
	is(t, "MaxAsked", len(l), 3+1+api.MaxAsked+1+2)
}

// P2.6: of equal offers the lesser class is first; what has no quote is no offer.
func TestOffers(t *testing.T) {
	x := api.Tariff{Rates: []api.Rate{
		{Class: "a", To: 9, Day: 70, Hour: -1, Weekend: -1, Week: -1},
		{Class: "b", To: 9, Day: 50, Hour: -1, Weekend: -1, Week: -1},
		{Class: "c", From: 1, To: 9, Day: 10, Hour: -1, Weekend: -1, Week: -1},
		{Class: "d", To: 9, Day: 50, Hour: -1, Weekend: -1, Week: -1},
	}, Codes: []api.Code{{Key: "x", Class: "a", To: 9, Days: 1, Permille: 600}}}
	a := api.Ask{Time: span(0, 60), A: "s1", B: "s1"}
	all := []string{"d", "c", "a", "e", "b"}
	offer := func(class string, cents int) api.Offer { return api.Offer{Class: class, Cents: cents} }
	cases := []struct {
		what    string
		classes []string
		codes   []string
		b       string
		want    []api.Offer
	}{
		{"none", nil, nil, "s1", nil},
		{"all", all, nil, "s1", []api.Offer{offer("b", 50), offer("d", 50), offer("a", 70)}},
		{"some", []string{"c", "d"}, nil, "s1", []api.Offer{offer("d", 50)}},
		{"with a code for one of them", all, []string{"x"}, "s1", []api.Offer{offer("a", 28), offer("b", 50), offer("d", 50)}},
		{"no such code", all, []string{"y"}, "s1", nil},
		{"no such fee", all, nil, "s2", nil},
		{"no station", all, nil, "", nil},
	}
	for _, c := range cases {
		a.Codes, a.B = c.codes, c.b
		for _, class := range []string{"", "c", "No key"} {
			a.Class = class
			offers, e := tariff.Offers(x, c.classes, a)
			same(t, c.what, offers, c.want)
			is(t, c.what, e, api.OK)
		}
	}
	offers, e := tariff.Offers(whole(), []string{"midi", "maxi", "mini"}, ask())
	same(t, "ordinary", offers, []api.Offer{offer("mini", 227), offer("midi", 320), offer("maxi", 1016)})
	is(t, "ordinary", e, api.OK)
}

// P2.6: an offer is what the lines of the quote add up to.
func TestOffersAreQuotes(t *testing.T) {
	for _, class := range []string{"mini", "midi", "maxi"} {
		a := ask()
		a.Class = class
		l, _ := tariff.Quote(whole(), a)
		n, _ := tariff.Total(l)
		offers, _ := tariff.Offers(whole(), []string{class}, ask())
		same(t, class, offers, []api.Offer{{Class: class, Cents: n}})
	}
}

// P2.6: taxes above MaxCents are no reason to leave an offer out.
func TestOffersAboveMaxCents(t *testing.T) {
	x := api.Tariff{
		Rates: []api.Rate{{Class: "a", To: 4001, Day: api.MaxRate, Hour: -1, Weekend: -1, Week: -1}},
		Taxes: many(api.MaxTaxes, func(i int) api.Tax { return tax(key(i), 1000, true, 1) }),
	}
	a := api.Ask{Class: "a", Time: span(0, api.MaxDays*api.DayLong), A: "s1", B: "s1"}
	l, e := tariff.Quote(x, a)
	is(t, "quote", e, api.OK)
	is(t, "quote", tariff.CheckLines(l), api.ErrArg)
	offers, e := tariff.Offers(x, []string{"a"}, a)
	same(t, "offers", offers, []api.Offer{{Class: "a", Cents: api.MaxDays * api.MaxRate << api.MaxTaxes}})
	is(t, "offers", e, api.OK)
}

// P2.6: the errors from the last one to the first one; the class of the ask does not matter.
func TestOffersErrors(t *testing.T) {
	x, a := whole(), ask()
	a.Class = ""
	classes := []string{"mini"}
	for _, s := range []step{
		{"long", func(_ *api.Tariff, a *api.Ask) { a.Time = longWindow() }, api.ErrLarge},
		{"time", func(_ *api.Tariff, a *api.Ask) { a.Time = api.Window{From: -1, To: 5} }, api.ErrArg},
		{"an extra twice", func(_ *api.Tariff, a *api.Ask) { a.Extras = []string{"gps", "gps", "none"} }, api.ErrTwice},
		{"no such extra", func(_ *api.Tariff, a *api.Ask) { a.Extras[0] = "none" }, api.ErrNone},
		{"many extras", func(_ *api.Tariff, a *api.Ask) { a.Extras = make([]string, api.MaxAsked+1) }, api.ErrLarge},
		{"a class twice", func(*api.Tariff, *api.Ask) { classes = []string{"a", "b", "a", ""} }, api.ErrTwice},
		{"no class", func(*api.Tariff, *api.Ask) { classes = []string{"a", "", "a"} }, api.ErrName},
		{"no class twice", func(*api.Tariff, *api.Ask) { classes = []string{"A", "A"} }, api.ErrName},
		{"many classes", func(*api.Tariff, *api.Ask) { classes = make([]string, api.MaxClasses+1) }, api.ErrLarge},
		{"tariff", func(x *api.Tariff, _ *api.Ask) { x.Rates = badRates() }, badRatesError},
	} {
		s.do(&x, &a)
		offers, e := tariff.Offers(x, classes, a)
		same(t, s.what, offers, nil)
		is(t, s.what, e, s.want)
	}
	offers, e := tariff.Offers(whole(), many(api.MaxClasses, key), ask())
	same(t, "MaxClasses", offers, nil)
	is(t, "MaxClasses", e, api.OK)
	_, e = tariff.Offers(whole(), slices.Concat(many(api.MaxClasses, key), []string{"mini"}), ask())
	is(t, fmt.Sprint(api.MaxClasses+1, " classes"), e, api.ErrLarge)
}
