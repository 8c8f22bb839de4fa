package tariff_test

import (
	"math/rand"
	"strings"
	"testing"

	"forecourt/api"
	"forecourt/tariff"
)

const ratesText = `maxi 0 4001 -1 -1 -1 900
midi 2 9 20 90 100 300
midi 10 20 30 95 110 310
mini 0 4001 10 50 70 200
`

// P2.7
func TestText(t *testing.T) {
	s, e := tariff.Text(rates())
	is(t, "ordinary", s, ratesText)
	is(t, "ordinary", e, api.OK)
	s, e = tariff.Text(nil)
	is(t, "none", s, "")
	is(t, "none", e, api.OK)
	s, e = tariff.Text(badRates())
	is(t, "wrong", s, "")
	is(t, "wrong", e, badRatesError)
	most := many(api.MaxRates, func(i int) api.Rate {
		return api.Rate{Class: longKey, From: 1000 + i, To: 1001 + i, Hour: api.MaxRate, Day: api.MaxRate, Weekend: api.MaxRate, Week: api.MaxRate}
	})
	s, e = tariff.Text(most)
	is(t, "MaxRates", strings.Count(s, "\n"), api.MaxRates)
	is(t, "MaxRates", e, api.OK)
	back, _, e := tariff.Read(s)
	same(t, "MaxRates", back, most)
	is(t, "MaxRates", e, api.OK)
}

// P2.7
func TestRead(t *testing.T) {
	const good = "mini 0 4001 10 50 70 200\n"
	cases := []struct {
		what string
		text string
		want []api.Rate
		line int
		e    api.Errno
	}{
		{"none", "", nil, 0, api.OK},
		{"ordinary", ratesText, rates(), 0, api.OK},
		{"an empty line", good + "\n", nil, 1, api.ErrSyntax},
		{"not ended", good + "mini 0 1 1 1 1 1", nil, 1, api.ErrSyntax},
		{"six words", "mini 0 4001 10 50 70\n", nil, 0, api.ErrSyntax},
		{"eight words", "mini 0 4001 10 50 70 200 5\n", nil, 0, api.ErrSyntax},
		{"two blanks", "mini 0  4001 10 50 70 200\n", nil, 0, api.ErrSyntax},
		{"a blank at the end", "mini 0 4001 10 50 70 200 \n", nil, 0, api.ErrSyntax},
		{"a blank before", " mini 0 4001 10 50 70 200\n", nil, 0, api.ErrSyntax},
		{"an empty word for the class", " 0 4001 10 50 70 200\n", nil, 0, api.ErrSyntax},
		{"a carriage return", "mini 0 4001 10 50 70 200\r\n", nil, 0, api.ErrSyntax},
		{"-0", "mini -0 4001 10 50 70 200\n", nil, 0, api.ErrSyntax},
		{"a 0 before", "mini 0 04001 10 50 70 200\n", nil, 0, api.ErrSyntax},
		{"a plus", "mini 0 4001 +10 50 70 200\n", nil, 0, api.ErrSyntax},
		{"ten digits", "mini 0 4001 10 1000000000 70 200\n", nil, 0, api.ErrSyntax},
		{"no number", "mini 0 4001 10 50 x 200\n", nil, 0, api.ErrSyntax},
		{"no number at the end", "mini 0 4001 10 50 70 x\n", nil, 0, api.ErrSyntax},
		{"the first such line", good + good + "x\ny\n", nil, 2, api.ErrSyntax},
		{"syntax before what is wrong", "Mini 0 4001 10 50 70 200\nx\n", nil, 1, api.ErrSyntax},
		{"syntax before too many", strings.Repeat(good, api.MaxRates+1) + "x\n", nil, api.MaxRates + 1, api.ErrSyntax},
		{"nine digits", "mini 0 4001 10 999999999 70 200\n", nil, 0, api.ErrArg},
		{"below 0", "mini -999999999 4001 10 50 70 200\n", nil, 0, api.ErrArg},
		{"no key", "Mini 0 4001 10 50 70 200\n", nil, 0, api.ErrName},
		{"order", good + good, nil, 0, api.ErrOrder},
		{"overlap", "mini 0 20 1 1 1 1\nmini 19 30 1 1 1 1\n", nil, 0, api.ErrConflict},
		{"too many", strings.Repeat(good, api.MaxRates+1), nil, 0, api.ErrLarge},
		{"MaxText bytes", strings.Repeat("\n", api.MaxText), nil, 0, api.ErrSyntax},
		{"more", strings.Repeat("\n", api.MaxText+1), nil, 0, api.ErrLarge},
	}
	for _, c := range cases {
		l, line, e := tariff.Read(c.text)
		same(t, c.what, l, c.want)
		is(t, c.what, line, c.line)
		is(t, c.what, e, c.e)
	}
}

// P2.7: the fields are in their order.
func TestReadFields(t *testing.T) {
	l, _, e := tariff.Read("a 1 2 3 4 5 6\n")
	same(t, "fields", l, []api.Rate{{Class: "a", From: 1, To: 2, Hour: 3, Day: 4, Weekend: 5, Week: 6}})
	is(t, "fields", e, api.OK)
}

// P2.7, Z10: what is written is read to the same, and what is read is written to the same.
func TestTextsAtRandom(t *testing.T) {
	r := rand.New(rand.NewSource(8))
	for range 200 {
		l := someRates(r, 40)
		text, _ := tariff.Text(l)
		back, _, e := tariff.Read(text)
		same(t, "rates", back, l)
		is(t, "rates", e, api.OK)
	}
	const signs = "0159-- \nmix"
	for range 30_000 {
		at, sign := r.Intn(len(ratesText)), string(signs[r.Intn(len(signs))])
		spoilt := []string{ratesText[:at] + sign + ratesText[at+1:], ratesText[:at] + sign + ratesText[at:], ratesText[:at] + ratesText[at+1:]}[r.Intn(3)]
		if l, _, e := tariff.Read(spoilt); e == api.OK {
			text, _ := tariff.Text(l)
			is(t, "spoilt", text, spoilt)
		}
	}
}
