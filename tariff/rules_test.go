package tariff_test

import (
	"math/rand"
	"slices"
	"sync"
	"testing"

	"forecourt/api"
	"forecourt/tariff"
)

// everything calls all functions, and puts all results together that can be compared.
func everything(x api.Tariff, a api.Ask) []any {
	var all []any
	put := func(results ...any) { all = append(all, results...) }
	put(tariff.CheckRates(x.Rates), tariff.CheckExtras(x.Extras), tariff.CheckFees(x.Fees), tariff.CheckCodes(x.Codes), tariff.CheckTaxes(x.Taxes), tariff.Check(x))
	days, e := tariff.Days(a.Time)
	rate, e2 := tariff.RateOn(x.Rates, a.Class, a.Time.From/api.DayLong)
	put(days, e, rate, e2)
	pieces, e := tariff.Divide(x.Rates, a.Class, a.Time)
	cost, e2 := tariff.Cost(x.Rates, a.Class, a.Time, pieces)
	to, e3 := tariff.Stretch(x.Rates, a.Class, a.Time)
	put(len(pieces), e, cost, e2, to, e3)
	extra, e := tariff.ExtraCost(x.Extras, "seat", 3)
	fee, e2 := tariff.FeeOf(x.Fees, a.A, a.B)
	code, off, e3 := tariff.BestCode(x.Codes, a.Codes, a.Class, a.Time, 1000)
	put(extra, e, fee, e2, code, off, e3)
	lines, e := tariff.Quote(x, a)
	total, e2 := tariff.Total(lines)
	taxed, e3 := tariff.TaxLines(x.Taxes, lines[:len(pieces)])
	offers, e4 := tariff.Offers(x, []string{"maxi", "midi", "mini"}, a)
	put(e, total, e2, e3, e4)
	text, e := tariff.Text(x.Rates)
	read, line, e2 := tariff.Read(text)
	put(text, e, line, e2)
	for _, p := range pieces {
		put(p)
	}
	for _, l := range slices.Concat(lines, taxed) {
		put(l)
	}
	for _, o := range offers {
		put(o)
	}
	for _, r := range read {
		put(r)
	}
	return all
}

func sameTariff(t *testing.T, what string, got, want api.Tariff) {
	t.Helper()
	same(t, what+": rates", got.Rates, want.Rates)
	same(t, what+": extras", got.Extras, want.Extras)
	same(t, what+": fees", got.Fees, want.Fees)
	same(t, what+": codes", got.Codes, want.Codes)
	is(t, what+": taxes", len(got.Taxes), len(want.Taxes))
	for i, x := range got.Taxes {
		same(t, what+": On", x.On, want.Taxes[i].On)
		is(t, what+": tax", x.Key, want.Taxes[i].Key)
	}
}

// Z2, Z7: arguments stay as they are, what is behind their ends is not looked at, and the results are the same each time.
func TestArgumentsStay(t *testing.T) {
	x, a := whole(), ask()
	first := everything(x, a)
	x.Rates = append(x.Rates, api.Rate{Class: "x"})[:len(x.Rates)]
	x.Fees = append(x.Fees, api.Fee{A: "x"})[:len(x.Fees)]
	a.Extras = append(a.Extras, "x")[:len(a.Extras)]
	a.Codes = append(a.Codes, "x")[:len(a.Codes)]
	lines := []api.Line{line(1, "a", 5), line(2, "b", 6)}
	tariff.TaxLines(x.Taxes, lines[:1])
	same(t, "lines", lines, []api.Line{line(1, "a", 5), line(2, "b", 6)})
	classes := []string{"mini", "maxi", "midi"}
	tariff.Offers(x, classes, a)
	same(t, "classes", classes, []string{"mini", "maxi", "midi"})
	for range 20 {
		same(t, "again", everything(x, a), first)
	}
	sameTariff(t, "tariff", x, whole())
	same(t, "extras of the ask", a.Extras, ask().Extras)
	same(t, "codes of the ask", a.Codes, ask().Codes)
	is(t, "behind the rates", x.Rates[:len(x.Rates)+1][len(x.Rates)].Class, "x")
	is(t, "behind the extras", a.Extras[:len(a.Extras)+1][len(a.Extras)], "x")
}

// Z1: functions without objects can be called by any number of goroutines at once.
func TestManyAtOnce(t *testing.T) {
	x, a := whole(), ask()
	want := everything(x, a)
	got := make([][]any, 8)
	var group sync.WaitGroup
	for i := range got {
		group.Go(func() { got[i] = everything(x, a) })
	}
	group.Wait()
	for _, g := range got {
		same(t, "at once", g, want)
	}
}

// Z1, Z3: nothing panics, and with an error other results are zero values, whatever the numbers are.
func TestAnyNumbers(t *testing.T) {
	r := rand.New(rand.NewSource(9))
	const least, most = -1 << 63, 1<<63 - 1
	number := func() int { return []int{least, -2, -1, 0, 1, 2, 5, 720, 5761439, 5761440, most}[r.Intn(11)] }
	for range 20_000 {
		w := api.Window{From: number(), To: number()}
		l := []api.Rate{{Class: "a", From: number(), To: number(), Hour: number(), Day: number(), Weekend: number(), Week: number()}}
		if r.Intn(2) == 0 {
			l = rates()
		}
		days, e := tariff.Days(w)
		is(t, "Days", e != api.OK && days != 0, false)
		n, e := tariff.Cost(l, "mini", w, []api.Piece{piece(number(), number(), number()), piece(number(), number(), number())})
		is(t, "Cost", e != api.OK && n != 0, false)
		p, e := tariff.Divide(l, "a", w)
		is(t, "Divide", e != api.OK && len(p) != 0, false)
		to, e := tariff.Stretch(l, "a", w)
		is(t, "Stretch", e != api.OK && to != 0, false)
		rate, e := tariff.RateOn(l, "a", number())
		is(t, "RateOn", e != api.OK && rate != api.Rate{}, false)
		n, e = tariff.ExtraCost([]api.Extra{{Key: "a", Once: number(), Day: number(), Most: number()}}, "a", number())
		is(t, "ExtraCost", e != api.OK && n != 0, false)
		key, n, e := tariff.BestCode([]api.Code{{Key: "a", From: number(), To: number(), Days: number(), Permille: number()}}, []string{"a"}, "a", w, number())
		is(t, "BestCode", e != api.OK && (n != 0 || key != ""), false)
		lines, e := tariff.TaxLines([]api.Tax{tax("a", number(), false, number())}, []api.Line{line(number(), "a", number())})
		is(t, "TaxLines", e != api.OK && len(lines) != 0, false)
	}
}
