package book_test

import (
	"math/rand"
	"strings"
	"testing"

	"forecourt/api"
	"forecourt/book"
)

const bookingsText = `a mini 10 20 0 50
b mini 15 30 7 100
c-1 midi 20 40 20 0
`

func textBookings() []api.Booking {
	return []api.Booking{booking("a", "mini", 10, 20), percent(made(booking("b", "mini", 15, 30), 7), 100), percent(made(booking("c-1", "midi", 20, 40), 20), 0)}
}

// P3.6
func TestText(t *testing.T) {
	s, e := book.Text(textBookings())
	is(t, "ordinary", s, bookingsText)
	is(t, "ordinary", e, api.OK)
	s, e = book.Text(nil)
	is(t, "none", s, "")
	is(t, "none", e, api.OK)
	for _, c := range formCases() {
		s, e := book.Text(c.l)
		is(t, c.what, e, c.want)
		is(t, c.what, s != "", e == api.OK && len(c.l) > 0)
	}
	most := many(api.MaxBookings, func(i int) api.Booking {
		b := made(booking(key(i)+longKey[:api.MaxName-len(key(i))], longKey, api.End-2, api.End-1), api.End-2)
		return percent(b, 100)
	})
	s, e = book.Text(most)
	is(t, "MaxBookings", strings.Count(s, "\n"), api.MaxBookings)
	is(t, "MaxBookings", e, api.OK)
	back, _, e := book.Read(s)
	same(t, "MaxBookings", back, most)
	is(t, "MaxBookings", e, api.OK)
}

// P3.6
func TestRead(t *testing.T) {
	const good = "a mini 10 20 0 50\n"
	cases := []struct {
		what string
		text string
		want []api.Booking
		line int
		e    api.Errno
	}{
		{"none", "", nil, 0, api.OK},
		{"ordinary", bookingsText, textBookings(), 0, api.OK},
		{"a class that there may be", "a bus 1 2 0 1\n", []api.Booking{percent(booking("a", "bus", 1, 2), 1)}, 0, api.OK},
		{"an empty line", good + "\n", nil, 1, api.ErrSyntax},
		{"not ended", good + "b mini 10 20 0 50", nil, 1, api.ErrSyntax},
		{"one word", "a\n", nil, 0, api.ErrSyntax},
		{"two words", "a mini\n", nil, 0, api.ErrSyntax},
		{"five words", "a mini 10 20 0\n", nil, 0, api.ErrSyntax},
		{"seven words", "a mini 10 20 0 50 5\n", nil, 0, api.ErrSyntax},
		{"two blanks", "a mini 10  20 0 50\n", nil, 0, api.ErrSyntax},
		{"a blank at the end", "a mini 10 20 0 50 \n", nil, 0, api.ErrSyntax},
		{"a blank before", " a mini 10 20 0 50\n", nil, 0, api.ErrSyntax},
		{"an empty word for the key", " mini 10 20 0 50\n", nil, 0, api.ErrSyntax},
		{"an empty word for the class", "a  10 20 0 50\n", nil, 0, api.ErrSyntax},
		{"a carriage return", "a mini 10 20 0 50\r\n", nil, 0, api.ErrSyntax},
		{"a tab is no blank", "a mini\t10 20 0 50 5\n", nil, 0, api.ErrName},
		{"a tab for a blank", "a mini\t10 20 0 50\n", nil, 0, api.ErrSyntax},
		{"-0", "a mini 10 20 -0 50\n", nil, 0, api.ErrSyntax},
		{"a 0 before", "a mini 10 020 0 50\n", nil, 0, api.ErrSyntax},
		{"a plus", "a mini +10 20 0 50\n", nil, 0, api.ErrSyntax},
		{"ten digits", "a mini 10 1000000000 0 50\n", nil, 0, api.ErrSyntax},
		{"no number", "a mini x 20 0 50\n", nil, 0, api.ErrSyntax},
		{"no number at the end", "a mini 10 20 0 x\n", nil, 0, api.ErrSyntax},
		{"the first such line", good + good + "x\ny\n", nil, 2, api.ErrSyntax},
		{"syntax before what is wrong", "A mini 10 20 0 50\nx\n", nil, 1, api.ErrSyntax},
		{"syntax before too many", strings.Repeat(good, api.MaxBookings+1) + "x\n", nil, api.MaxBookings + 1, api.ErrSyntax},
		{"no key", "A mini 10 20 0 50\n", nil, 0, api.ErrName},
		{"class is no key", "a Mini 10 20 0 50\n", nil, 0, api.ErrName},
		{"order", good + good, nil, 0, api.ErrOrder},
		{"nine digits", "a mini 10 999999999 0 50\n", nil, 0, api.ErrArg},
		{"below 0", "a mini -999999999 20 0 50\n", nil, 0, api.ErrArg},
		{"no time", "a mini 10 10 0 50\n", nil, 0, api.ErrArg},
		{"made later", "a mini 10 20 11 50\n", nil, 0, api.ErrArg},
		{"percent above", "a mini 10 20 0 101\n", nil, 0, api.ErrArg},
		{"too many", strings.Repeat(good, api.MaxBookings+1), nil, 0, api.ErrLarge},
		{"MaxText bytes", strings.Repeat("\n", api.MaxText), nil, 0, api.ErrSyntax},
		{"more", strings.Repeat("\n", api.MaxText+1), nil, 0, api.ErrLarge},
	}
	for _, c := range cases {
		l, line, e := book.Read(c.text)
		same(t, c.what, l, c.want)
		is(t, c.what, line, c.line)
		is(t, c.what, e, c.e)
	}
}

// P3.6: the fields are in their order.
func TestReadFields(t *testing.T) {
	l, _, e := book.Read("a b 3 4 2 5\n")
	same(t, "fields", l, []api.Booking{{Key: "a", Class: "b", Time: api.Window{From: 3, To: 4}, Made: 2, Percent: 5}})
	is(t, "fields", e, api.OK)
}

// P3.6, Z10: what is written is read to the same, and what is read is written to the same.
func TestTextsAtRandom(t *testing.T) {
	r := rand.New(rand.NewSource(10))
	c := classes()
	for range 200 {
		l := someBookings(r, c, r.Intn(30), 1000)
		text, e := book.Text(l)
		is(t, "bookings", e, api.OK)
		back, _, e := book.Read(text)
		same(t, "bookings", back, l)
		is(t, "bookings", e, api.OK)
	}
	const signs = "0159-- \nabm"
	read := 0
	for range 30_000 {
		at, sign := r.Intn(len(bookingsText)), string(signs[r.Intn(len(signs))])
		spoilt := []string{bookingsText[:at] + sign + bookingsText[at+1:], bookingsText[:at] + sign + bookingsText[at:], bookingsText[:at] + bookingsText[at+1:]}[r.Intn(3)]
		if l, _, e := book.Read(spoilt); e == api.OK {
			text, _ := book.Text(l)
			is(t, "spoilt", text, spoilt)
			read++
		}
	}
	if read < 1000 {
		t.Errorf("only %d spoilt texts could be read", read)
	}
}
