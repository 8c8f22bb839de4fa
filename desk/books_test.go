package desk_test

import (
	"math/rand"
	"testing"

	"forecourt/api"
	"forecourt/desk"
	"forecourt/tariff"
)

// P8.3: a day and an hour, to another station, 40 minutes late, with 5 eighths that are missing.
func TestBooks(t *testing.T) {
	want := []api.Line{
		{Kind: api.LinePiece, Key: "day", Cents: 5000}, {Kind: api.LinePiece, Key: "hours", Cents: 1000},
		{Kind: api.LineFee, Key: "oneway", Cents: 700},
		{Kind: api.LineTax, Key: "vat", Cents: 1200}, {Kind: api.LineTax, Key: "city", Cents: 70},
		{Kind: api.LineOther, Key: "late", Cents: 600}, {Kind: api.LineOther, Key: "fuel", Cents: 1500},
	}
	l, e := desk.Lines(house(), someSaid(), "h1")
	same(t, "lines", l, want)
	is(t, "lines", e, api.OK)
	cents, e := desk.Balance(house(), someSaid(), "h1")
	is(t, "balance", cents, 10_070-4000-9999)
	is(t, "balance", e, api.OK)
	// 100 have been paid for h4, which is open.
	ledger, e := desk.Ledger(house(), someSaid())
	same(t, "ledger", ledger, []api.Posting{
		{Account: "cash", Cents: 14_099}, {Account: "due", Cents: -4029}, {Account: "fee", Cents: -700},
		{Account: "other", Cents: -2100}, {Account: "rent", Cents: -6000}, {Account: "tax", Cents: -1270},
	})
	is(t, "ledger", e, api.OK)
}

// P8.3: which ask it is. v1 is a mini, and v3 a midi; there is no fee from s1 to s3, and no rate for a midi from day 3 on.
func TestWhatIsAsked(t *testing.T) {
	piece := func(cents int) api.Line { return api.Line{Kind: api.LinePiece, Key: "day", Cents: cents} }
	vat := func(cents int) api.Line { return api.Line{Kind: api.LineTax, Key: "vat", Cents: cents} }
	city := func(cents int) api.Line { return api.Line{Kind: api.LineTax, Key: "city", Cents: cents} }
	other := func(key string, cents int) api.Line { return api.Line{Kind: api.LineOther, Key: key, Cents: cents} }
	oneway := func(cents int) api.Line { return api.Line{Kind: api.LineFee, Key: "oneway", Cents: cents} }
	const late = 600
	day3 := func(words string) string { return "4320 " + words }
	cases := []struct {
		what  string
		lines []string
		want  []api.Line
	}{
		{"the class of the vehicle, not of the booking", []string{"5 book h1 mini 10 20 5", "10 start h1 ann 1450 v3 s1 0 0", "90 close h1 s1 0 0"}, []api.Line{piece(9000), vat(1800), city(0)}},
		{"the class of the first vehicle", []string{"10 start h1 ann 1450 v1 s1 0 0", "20 swap h1 s1 0 0 v3 0 0", "90 close h1 s1 0 0"}, []api.Line{piece(5000), vat(1000), city(0)}},
		{"the time that was agreed in the end", []string{"10 start h1 ann 1450 v3 s1 0 0", "20 extend h1 4000", "30 extend h1 2890", "1600 close h1 s1 0 0"}, []api.Line{piece(9000), piece(9000), vat(3600), city(0)}},
		{"not the time that it took", []string{"10 start h1 ann 1450 v3 s1 0 0", "1511 close h1 s1 0 0"}, []api.Line{piece(9000), vat(1800), city(0), other("late", 2*late)}},
		{"the first and the last station", []string{"10 start h1 ann 1450 v3 s1 0 0", "20 leave v2 s1 s2", "30 come v2 s2", "40 swap h1 s2 0 0 v2 0 0", "90 close h1 s1 0 0"}, []api.Line{piece(9000), vat(1800), city(0)}},
		{"another last station", []string{"10 start h1 ann 1450 v3 s1 0 0", "20 swap h1 s1 0 0 v2 0 0", "90 close h1 s2 0 0"}, []api.Line{piece(9000), oneway(700), vat(1800), city(70)}},
		{"the way back", []string{"10 leave v3 s1 s2", "20 come v3 s2", "30 start h1 ann 1450 v3 s2 0 0", "90 close h1 s1 0 0"}, []api.Line{piece(9000), oneway(300), vat(1800), city(30)}},
		{"no fee", []string{"10 start h1 ann 1450 v3 s1 0 0", "1481 close h1 s3 0 0"}, []api.Line{other("late", late)}},
		{"no rate", []string{day3("start h1 ann 5000 v3 s1 5 7"), "5031 close h1 s1 206 6"}, []api.Line{other("late", late), other("distance", 202), other("fuel", 300)}},
		{"no rate, and nothing else", []string{day3("start h1 ann 5000 v3 s1 5 7"), "5030 close h1 s1 105 8"}, nil},
	}
	for _, c := range cases {
		l := said(append([]string{"0 enter v1 s1", "0 enter v2 s1", "0 enter v3 s1"}, c.lines...)...)
		refused, _ := desk.Refused(house(), l)
		same(t, c.what, refused, nil)
		lines, e := desk.Lines(house(), l, "h1")
		same(t, c.what, lines, c.want)
		is(t, c.what, e, api.OK)
		cents, e := desk.Balance(house(), l, "h1")
		total, _ := tariff.Total(c.want)
		is(t, c.what, cents, total)
		is(t, c.what, e, api.OK)
	}
}

// P8.3: lines that chapter 2 refuses are no lines.
func TestNoLines(t *testing.T) {
	far, taxed := house(), house()
	// 999,999 kilometres, less 100 that are free.
	far.Deal.Km = 100_000
	taxed.Tariff.Rates[1].Day, taxed.Tariff.Rates[1].Hour, taxed.Tariff.Rates[1].Week = api.MaxRate, -1, -1
	taxed.Tariff.Taxes = many(10, func(i int) api.Tax {
		return api.Tax{Key: key(i), Permille: 1000, On: []int{api.LinePiece}, Over: true}
	})
	taxed.Deal.Km = 0
	l := said("0 enter v1 s1", "10 start h1 ann 172810 v1 s1 5 8", "20 pay h1 700", "90 close h1 s1 4 0", "100 pay h1 7")
	for _, h := range []api.House{far, taxed} {
		k := knowing(t, h, l)
		same(t, "refused", k.refused, nil)
		lines, e := desk.Lines(h, l, "h1")
		same(t, "lines", lines, nil)
		is(t, "lines", e, api.OK)
		cents, e := desk.Balance(h, l, "h1")
		is(t, "balance", cents, -707)
		is(t, "balance", e, api.OK)
		same(t, "ledger", k.ledger, []api.Posting{{Account: "cash", Cents: 707}, {Account: "due", Cents: -707}})
	}
	lines, _ := desk.Lines(house(), l, "h1")
	is(t, "lines with an ordinary house", len(lines) > 3, true)
}

// P8.3: accounts whose sum is 0 are left out.
func TestLedgerZero(t *testing.T) {
	start := []string{"0 enter v3 s1", "10 start h1 ann 1450 v3 s1 0 0"}
	cases := []struct {
		what  string
		lines []string
		want  []api.Posting
	}{
		{"nothing at all", nil, nil},
		{"an open hire", start, nil},
		{"a payment of nothing", append(start[:2:2], "10 pay h1 0"), nil},
		{"a payment for an open hire", append(start[:2:2], "10 pay h1 5"), []api.Posting{{Account: "cash", Cents: 5}, {Account: "due", Cents: -5}}},
		{"not paid", append(start[:2:2], "90 close h1 s1 0 0"), []api.Posting{{Account: "due", Cents: 10_800}, {Account: "rent", Cents: -9000}, {Account: "tax", Cents: -1800}}},
		{"paid", append(start[:2:2], "20 pay h1 9000", "90 close h1 s1 0 0", "95 pay h1 1800"), []api.Posting{{Account: "cash", Cents: 10_800}, {Account: "rent", Cents: -9000}, {Account: "tax", Cents: -1800}}},
	}
	for _, c := range cases {
		k := knowing(t, house(), said(c.lines...))
		same(t, c.what, k.refused, nil)
		same(t, c.what, k.ledger, c.want)
	}
}

// P8.3: what follows, and the ledger of its definition.
func TestBooksAtRandom(t *testing.T) {
	r := rand.New(rand.NewSource(82))
	accounts := []string{api.LinePiece: "rent", api.LineCode: "code", api.LineExtra: "extra", api.LineFee: "fee", api.LineTax: "tax", api.LineOther: "other"}
	ended, open := 0, 0
	for range 300 {
		h, l := house(), deskEntries(t, r, 60)
		k := knowing(t, h, l)
		m := newModel(h)
		m.follow(l)
		sums := map[string]int{}
		for _, x := range k.hires {
			lines, e := desk.Lines(h, l, x.Key)
			cents, e2 := desk.Balance(h, l, x.Key)
			is(t, "one error", e, e2)
			if e == api.ErrState {
				open++
				sums["balances"] -= m.paid[x.Key]
				continue
			}
			is(t, "lines", e, api.OK)
			ended++
			sums["balances"] += cents
			total, e := tariff.Total(lines)
			is(t, "total", e, api.OK)
			is(t, "balance", cents, total-m.paid[x.Key])
			for _, y := range lines {
				sums[accounts[y.Kind]] -= y.Cents
				sums["due"] += y.Cents
			}
		}
		for _, cents := range m.paid {
			sums["cash"] += cents
			sums["due"] -= cents
		}
		is(t, "due", sums["due"], sums["balances"])
		delete(sums, "balances")
		sum, before := 0, ""
		for _, p := range k.ledger {
			is(t, p.Account, p.Cents, sums[p.Account])
			is(t, p.Account+" has cents, and is in order", p.Cents != 0 && p.Account > before, true)
			sum += p.Cents
			before = p.Account
			delete(sums, p.Account)
		}
		is(t, "sum", sum, 0)
		for account, cents := range sums {
			is(t, account+" is left out", cents, 0)
		}
	}
	if ended < 300 || open < 100 {
		t.Errorf("only %d hires have ended, and %d are open", ended, open)
	}
}
