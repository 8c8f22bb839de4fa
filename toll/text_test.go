package toll_test

import (
	"math/rand"
	"strings"
	"testing"

	"forecourt/api"
	"forecourt/toll"
)

const someText = `110 g1 AB1 70
115 g1 AB1 70
300 g2 CD2 80
`

// P6.6
func TestText(t *testing.T) {
	s, e := toll.Text(passages())
	is(t, "passages", s, someText)
	is(t, "passages", e, api.OK)
	s, e = toll.Text(nil)
	is(t, "none", s, "")
	is(t, "none", e, api.OK)
	runChecks(t, func(l []api.Passage) api.Errno {
		s, e := toll.Text(l)
		is(t, "text with an error", e != api.OK && s != "", false)
		return e
	}, wellFormed)
	long := many(api.MaxPassages, func(i int) api.Passage {
		return pass(api.End-api.MaxPassages+i, longKey, "ABCDEFGHI1", api.MaxRate)
	})
	s, e = toll.Text(long)
	is(t, "longest", len(s), api.MaxPassages*(len("5761439  ABCDEFGHI1 1000000\n")+api.MaxName))
	is(t, "longest", e, api.OK)
	back, _, e := toll.Read(s)
	same(t, "longest", back, long)
	is(t, "longest", e, api.OK)
}

// P6.6
func TestRead(t *testing.T) {
	const line = "9 g1 AB1 30\n"
	cases := []struct {
		what string
		text string
		want []api.Passage
		line int
		e    api.Errno
	}{
		{"empty", "", nil, 0, api.OK},
		{"one", line, []api.Passage{pass(9, "g1", "AB1", 30)}, 0, api.OK},
		{"some", someText, passages(), 0, api.OK},
		{"a true time that is no moment", "0 g1 AB1 30\n", []api.Passage{pass(0, "g1", "AB1", 30)}, 0, api.OK},
		{"an empty line", "\n", nil, 0, api.ErrSyntax},
		{"an empty line at the end", line + "\n", nil, 1, api.ErrSyntax},
		{"not ended", line + line[:len(line)-1], nil, 1, api.ErrSyntax},
		{"one word", "9\n", nil, 0, api.ErrSyntax},
		{"two words", line + "9 g1\n", nil, 1, api.ErrSyntax},
		{"three words", "9 g1 AB1\n", nil, 0, api.ErrSyntax},
		{"five words", "9 g1 AB1 30 5\n", nil, 0, api.ErrSyntax},
		{"two blanks", "9 g1  AB1 30\n", nil, 0, api.ErrSyntax},
		{"an empty word for the gate", "9  AB1 30\n", nil, 0, api.ErrSyntax},
		{"a blank at the begin", " 9 g1 AB1 30\n", nil, 0, api.ErrSyntax},
		{"a blank at the end", "9 g1 AB1 30 \n", nil, 0, api.ErrSyntax},
		{"a carriage return", "9 g1 AB1 30\r\n", nil, 0, api.ErrSyntax},
		{"a tab", "9 g1\tAB1 30\n", nil, 0, api.ErrSyntax},
		{"At is no number", line + "x g1 AB1 30\n", nil, 1, api.ErrSyntax},
		{"Cents is no number", line + "9 g1 AB1 x\n", nil, 1, api.ErrSyntax},
		{"a 0 before At", line + "09 g1 AB1 30\n", nil, 1, api.ErrSyntax},
		{"a 0 before Cents", line + "9 g1 AB1 030\n", nil, 1, api.ErrSyntax},
		{"+", "+9 g1 AB1 30\n", nil, 0, api.ErrSyntax},
		{"-0", "9 g1 AB1 -0\n", nil, 0, api.ErrSyntax},
		{"ten digits", "9 g1 AB1 1000000000\n", nil, 0, api.ErrSyntax},
		{"nine digits", "9 g1 AB1 999999999\n", nil, 0, api.ErrArg},
		{"nine digits for At", "999999999 g1 AB1 30\n", nil, 0, api.ErrArg},
		{"At below 0", "-1 g1 AB1 30\n", nil, 0, api.ErrArg},
		{"Cents below 0", "9 g1 AB1 -1\n", nil, 0, api.ErrArg},
		{"the first such line", line + line + "x\ny\n", nil, 2, api.ErrSyntax},
		{"syntax before what is wrong", "9 G1 AB1 30\nx\n", nil, 1, api.ErrSyntax},
		{"syntax before too many", strings.Repeat(line, api.MaxPassages+1) + "x\n", nil, api.MaxPassages + 1, api.ErrSyntax},
		{"no key", "9 G1 AB1 30\n", nil, 0, api.ErrName},
		{"a gate with other bytes", "9 g\xff AB1 30\n", nil, 0, api.ErrName},
		{"no plate", "9 g1 ab1 30\n", nil, 0, api.ErrForm},
		{"twice", line + line, nil, 0, api.ErrOrder},
		{"too many", strings.Repeat(line, api.MaxPassages+1), nil, 0, api.ErrLarge},
		{"MaxText bytes of lines that have no form", strings.Repeat("\n", api.MaxText), nil, 0, api.ErrSyntax},
		{"more", strings.Repeat("\n", api.MaxText+1), nil, 0, api.ErrLarge},
	}
	for _, c := range cases {
		l, line, e := toll.Read(c.text)
		same(t, c.what, l, c.want)
		is(t, c.what, line, c.line)
		is(t, c.what, e, c.e)
	}
}

// P6.6, Z10: what is written is read to the same, and what is read is written to the same.
func TestTextsAtRandom(t *testing.T) {
	r := rand.New(rand.NewSource(39))
	for range 500 {
		l := somePassages(r, r.Intn(14))
		text, e := toll.Text(l)
		is(t, "passages", e, api.OK)
		back, _, e := toll.Read(text)
		same(t, "passages", back, l)
		is(t, "passages", e, api.OK)
	}
	const signs = "0159-- \ngAB"
	count := 0
	for range 20_000 {
		at, sign := r.Intn(len(someText)), string(signs[r.Intn(len(signs))])
		spoilt := []string{someText[:at] + sign + someText[at+1:], someText[:at] + sign + someText[at:], someText[:at] + someText[at+1:]}[r.Intn(3)]
		if l, _, e := toll.Read(spoilt); e == api.OK {
			text, _ := toll.Text(l)
			is(t, "spoilt", text, spoilt)
			count++
		}
	}
	if count < 1000 {
		t.Errorf("only %d spoilt texts could be read", count)
	}
}
