package shift_test

import (
	"math/rand"
	"slices"
	"strings"
	"testing"

	"forecourt/api"
	"forecourt/shift"
)

const someText = `a c 1
a d 1
b c 1
`

// P7.6
func TestText(t *testing.T) {
	s, e := shift.Text(moves())
	is(t, "moves", s, someText)
	is(t, "moves", e, api.OK)
	s, e = shift.Text(nil)
	is(t, "none", s, "")
	is(t, "none", e, api.OK)
	runChecks(t, func(l []api.Move) api.Errno {
		s, e := shift.Text(l)
		is(t, "text with an error", e != api.OK && s != "", false)
		return e
	}, wellFormed)
}

// P7.6: texts of MaxText bytes, and of more.
func TestLongTexts(t *testing.T) {
	pad := strings.Repeat("x", api.MaxName-len(key(0)))
	long := func(count int) []api.Move {
		return manyWays(count, func(a, b string) api.Move { return move(a+pad, b+pad, api.MaxCars) })
	}
	const lineLong = 2*api.MaxName + len("  20\n")
	count, rest := api.MaxText/lineLong, api.MaxText%lineLong-len("  1\n")
	last := move(strings.Repeat("z", rest/2), strings.Repeat("y", rest-rest/2), 1)
	whole := append(long(count), last)
	s, e := shift.Text(whole)
	is(t, "MaxText bytes", len(s), api.MaxText)
	is(t, "MaxText bytes", e, api.OK)
	back, _, e := shift.Read(s)
	is(t, "MaxText bytes", slices.Equal(back, whole), true)
	is(t, "MaxText bytes", e, api.OK)
	whole[count].B += "y"
	s, e = shift.Text(whole)
	is(t, "more", s, "")
	is(t, "more", e, api.ErrLarge)
	s, e = shift.Text(long(api.MaxRoads))
	is(t, "MaxRoads", s, "")
	is(t, "MaxRoads", e, api.ErrLarge)
	s, e = shift.Text(append(long(api.MaxRoads-1), move("z", "z", 1)))
	is(t, "form before more", s, "")
	is(t, "form before more", e, api.ErrLoop)
}

// P7.6
func TestRead(t *testing.T) {
	const line = "a c 1\n"
	cases := []struct {
		what string
		text string
		want []api.Move
		line int
		e    api.Errno
	}{
		{"empty", "", nil, 0, api.OK},
		{"one", line, moves()[:1], 0, api.OK},
		{"some", someText, moves(), 0, api.OK},
		{"an empty line", "\n", nil, 0, api.ErrSyntax},
		{"an empty line at the end", line + "\n", nil, 1, api.ErrSyntax},
		{"not ended", line + line[:len(line)-1], nil, 1, api.ErrSyntax},
		{"one word", "a\n", nil, 0, api.ErrSyntax},
		{"two words", line + "a c\n", nil, 1, api.ErrSyntax},
		{"four words", "a c 1 1\n", nil, 0, api.ErrSyntax},
		{"two blanks", "a  c 1\n", nil, 0, api.ErrSyntax},
		{"an empty word", "a  1\n", nil, 0, api.ErrSyntax},
		{"a blank at the begin", " a c 1\n", nil, 0, api.ErrSyntax},
		{"a blank at the end", "a c 1 \n", nil, 0, api.ErrSyntax},
		{"a carriage return", "a c 1\r\n", nil, 0, api.ErrSyntax},
		{"a tab", "a c\t1\n", nil, 0, api.ErrSyntax},
		{"no number", line + "a d x\n", nil, 1, api.ErrSyntax},
		{"a 0 before it", "a c 01\n", nil, 0, api.ErrSyntax},
		{"+", "a c +1\n", nil, 0, api.ErrSyntax},
		{"-0", "a c -0\n", nil, 0, api.ErrSyntax},
		{"ten digits", "a c 1000000000\n", nil, 0, api.ErrSyntax},
		{"nine digits", "a c 999999999\n", nil, 0, api.ErrArg},
		{"0", "a c 0\n", nil, 0, api.ErrArg},
		{"below 0", "a c -1\n", nil, 0, api.ErrArg},
		{"the first such line", line + line + "x\ny\n", nil, 2, api.ErrSyntax},
		{"syntax before what is wrong", "A a 0\nx\n", nil, 1, api.ErrSyntax},
		{"no key", "A c 1\n", nil, 0, api.ErrName},
		{"other bytes", "a c\xff 1\n", nil, 0, api.ErrName},
		{"loop", "a a 1\n", nil, 0, api.ErrLoop},
		{"twice", line + line, nil, 0, api.ErrOrder},
		{"syntax before too many", strings.Repeat(line, api.MaxRoads+1) + "a c\n", nil, api.MaxRoads + 1, api.ErrSyntax},
		{"too many", strings.Repeat(line, api.MaxRoads+1), nil, 0, api.ErrLarge},
		{"MaxText bytes of lines that have no form", strings.Repeat("\n", api.MaxText), nil, 0, api.ErrSyntax},
		{"more", strings.Repeat("\n", api.MaxText+1), nil, 0, api.ErrLarge},
	}
	for _, c := range cases {
		l, line, e := shift.Read(c.text)
		same(t, c.what, l, c.want)
		is(t, c.what, line, c.line)
		is(t, c.what, e, c.e)
	}
}

// P7.6, Z10: what is written is read to the same, and what is read is written to the same.
func TestTextsAtRandom(t *testing.T) {
	r := rand.New(rand.NewSource(80))
	for range 500 {
		l := someMoves(r, r.Intn(14), 6)
		text, e := shift.Text(l)
		is(t, "moves", e, api.OK)
		back, _, e := shift.Read(text)
		same(t, "moves", back, l)
		is(t, "moves", e, api.OK)
	}
	const signs = "0129-- \nabcd"
	count := 0
	for range 20_000 {
		at, sign := r.Intn(len(someText)), string(signs[r.Intn(len(signs))])
		spoilt := []string{someText[:at] + sign + someText[at+1:], someText[:at] + sign + someText[at:], someText[:at] + someText[at+1:]}[r.Intn(3)]
		if l, _, e := shift.Read(spoilt); e == api.OK {
			text, _ := shift.Text(l)
			is(t, "spoilt", text, spoilt)
			count++
		}
	}
	if count < 1000 {
		t.Errorf("only %d spoilt texts could be read", count)
	}
}
