package desk_test

import (
	"math/rand"
	"strings"
	"testing"

	"forecourt/api"
	"forecourt/desk"
)

const someText = `10 d1 1 enter v1 s1
10 d2 30 dance,  dance
25 d1 2  ~
`

func textEntries() []api.Entry {
	return []api.Entry{entry(10, "d1", 1, "enter v1 s1"), entry(10, "d2", 30, "dance,  dance"), entry(25, "d1", 2, " ~")}
}

// P8.4
func TestText(t *testing.T) {
	cases := []struct {
		what string
		l    []api.Entry
		want string
		e    api.Errno
	}{
		{"none", nil, "", api.OK},
		{"some", textEntries(), someText, api.OK},
		{"blanks at both ends", []api.Entry{entry(0, "d", 1_000_000, " a ")}, "0 d 1000000  a \n", api.OK},
		{"a wrong moment", []api.Entry{entry(-1, "d", 1, "a")}, "", api.ErrArg},
		{"no words", []api.Entry{entry(1, "d", 1, "")}, "", api.ErrForm},
		{"twice", []api.Entry{entry(1, "d", 1, "a"), entry(2, "d", 1, "a")}, "", api.ErrTwice},
	}
	for _, c := range cases {
		s, e := desk.Text(c.l)
		is(t, c.what, s, c.want)
		is(t, c.what, e, c.e)
	}
	// Each line has 200 bytes.
	words := strings.Repeat("x", 200-len("1000 d1 1000 \n"))
	full := many(api.MaxEntries, func(i int) api.Entry { return entry(1000+i, "d1", 9000-i, words) })
	s, e := desk.Text(full)
	is(t, "MaxText bytes", len(s), api.MaxText)
	is(t, "MaxText bytes", e, api.OK)
	back, _, e := desk.Read(s)
	same(t, "MaxText bytes", back, full)
	is(t, "MaxText bytes", e, api.OK)
	full[7].Words += "x"
	s, e = desk.Text(full)
	is(t, "more", s, "")
	is(t, "more", e, api.ErrLarge)
}

// P8.4
func TestRead(t *testing.T) {
	const line = "10 d1 1 go on\n"
	cases := []struct {
		what string
		text string
		want []api.Entry
		line int
		e    api.Errno
	}{
		{"empty", "", nil, 0, api.OK},
		{"one", line, []api.Entry{entry(10, "d1", 1, "go on")}, 0, api.OK},
		{"some", someText, textEntries(), 0, api.OK},
		{"a blank for words", "10 d1 1  \n", []api.Entry{entry(10, "d1", 1, " ")}, 0, api.OK},
		{"a blank at the end", "10 d1 1 go \n", []api.Entry{entry(10, "d1", 1, "go ")}, 0, api.OK},
		{"an empty line", "\n", nil, 0, api.ErrSyntax},
		{"an empty line at the end", line + "\n", nil, 1, api.ErrSyntax},
		{"not ended", line + line[:len(line)-1], nil, 1, api.ErrSyntax},
		{"one word", "10\n", nil, 0, api.ErrSyntax},
		{"two words", "10 d1\n", nil, 0, api.ErrSyntax},
		{"three words", line + "10 d1 2\n", nil, 1, api.ErrSyntax},
		{"three words, and a blank", "10 d1 2 \n", nil, 0, api.ErrSyntax},
		{"a blank at the begin", " 10 d1 1 go\n", nil, 0, api.ErrSyntax},
		{"no desk", "10  1 go\n", nil, 0, api.ErrSyntax},
		{"two blanks behind At", "10  d1 1 go\n", nil, 0, api.ErrSyntax},
		{"two blanks behind the desk", "10 d1  1 go\n", nil, 0, api.ErrSyntax},
		{"At is no number", "x d1 1 go\n", nil, 0, api.ErrSyntax},
		{"No is no number", "10 d1 x go\n", nil, 0, api.ErrSyntax},
		{"a 0 before At", "010 d1 1 go\n", nil, 0, api.ErrSyntax},
		{"a 0 before No", "10 d1 01 go\n", nil, 0, api.ErrSyntax},
		{"+", "10 d1 +1 go\n", nil, 0, api.ErrSyntax},
		{"-0", "-0 d1 1 go\n", nil, 0, api.ErrSyntax},
		{"ten digits", "10 d1 1000000000 go\n", nil, 0, api.ErrSyntax},
		{"nine digits", "10 d1 999999999 go\n", nil, 0, api.ErrArg},
		{"At below 0", "-1 d1 1 go\n", nil, 0, api.ErrArg},
		{"No below 0", "10 d1 -1 go\n", nil, 0, api.ErrArg},
		{"no key", "10 D1 1 go\n", nil, 0, api.ErrName},
		{"a carriage return", "10 d1 1 go\r\n", nil, 0, api.ErrForm},
		{"a tab", "10 d1 1 go\ton\n", nil, 0, api.ErrForm},
		{"a tab for a blank", "10 d1 1\tgo\n", nil, 0, api.ErrSyntax},
		{"words that are too long", "10 d1 1 " + strings.Repeat("x", api.MaxWords+1) + "\n", nil, 0, api.ErrForm},
		{"out of order", line + "9 d1 2 go\n", nil, 0, api.ErrOrder},
		{"twice", line + "11 d1 1 go\n", nil, 0, api.ErrTwice},
		{"the first such line", line + line + "x\ny\n", nil, 2, api.ErrSyntax},
		{"syntax before what is wrong", "10 D1 1 go\nx\n", nil, 1, api.ErrSyntax},
		{"syntax before too many", strings.Repeat(line, api.MaxEntries+1) + "x\n", nil, api.MaxEntries + 1, api.ErrSyntax},
		{"too many", strings.Repeat(line, api.MaxEntries+1), nil, 0, api.ErrLarge},
		{"MaxText bytes of lines that have no form", strings.Repeat("\n", api.MaxText), nil, 0, api.ErrSyntax},
		{"more", strings.Repeat("\n", api.MaxText+1), nil, 0, api.ErrLarge},
	}
	for _, c := range cases {
		l, line, e := desk.Read(c.text)
		same(t, c.what, l, c.want)
		is(t, c.what, line, c.line)
		is(t, c.what, e, c.e)
	}
}

// P8.4, Z10: what is written is read to the same, and what is read is written to the same.
func TestTextsAtRandom(t *testing.T) {
	r := rand.New(rand.NewSource(81))
	for range 500 {
		l := someEntries(r, r.Intn(20))
		text, e := desk.Text(l)
		is(t, "entries", e, api.OK)
		back, _, e := desk.Read(text)
		same(t, "entries", back, l)
		is(t, "entries", e, api.OK)
	}
	const signs = "0159-- \ngAB"
	count := 0
	for range 20_000 {
		at, sign := r.Intn(len(someText)), string(signs[r.Intn(len(signs))])
		spoilt := []string{someText[:at] + sign + someText[at+1:], someText[:at] + sign + someText[at:], someText[:at] + someText[at+1:]}[r.Intn(3)]
		if l, _, e := desk.Read(spoilt); e == api.OK {
			text, _ := desk.Text(l)
			is(t, "spoilt", text, spoilt)
			count++
		}
	}
	if count < 1000 {
		t.Errorf("only %d spoilt texts could be read", count)
	}
}
