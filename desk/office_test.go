package desk_test

import (
	"fmt"
	"slices"
	"strings"
	"testing"

	"forecourt/api"
	"forecourt/desk"
)

// P8.2: all that is said, and what comes of it.
func TestFollow(t *testing.T) {
	k := knowing(t, house(), someSaid())
	same(t, "refused", k.refused, nil)
	event := func(at int, vehicle string, kind int, station, to string) api.Event {
		return api.Event{At: at, Vehicle: vehicle, Station: station, Kind: kind, To: to}
	}
	same(t, "log", k.log, []api.Event{
		event(0, "v1", api.EventEnter, "s1", ""), event(0, "v2", api.EventEnter, "s1", ""), event(5, "v3", api.EventEnter, "s2", ""),
		event(20, "v1", api.EventOut, "s1", ""),
		event(60, "v1", api.EventBack, "s1", ""), event(60, "v2", api.EventOut, "s1", ""),
		event(80, "v1", api.EventShop, "s1", ""), event(90, "v1", api.EventDone, "s1", ""),
		event(100, "v1", api.EventLeave, "s1", "s3"), event(200, "v1", api.EventCome, "s3", ""), event(300, "v1", api.EventGone, "s3", ""),
		event(1540, "v2", api.EventBack, "s2", ""),
		event(1600, "v3", api.EventOut, "s2", ""),
	})
	// h1 has been started, and h2 cancelled.
	same(t, "bookings", k.bookings, []api.Booking{{Key: "h3", Class: "mini", Time: api.Window{From: 40, To: 90}, Made: 11, Percent: 0}})
	reading := func(at int, station string, meter, fuel int) api.Reading {
		return api.Reading{At: at, Station: station, Meter: meter, Fuel: fuel}
	}
	sameHires(t, "hires", k.hires, []api.Hire{
		{Key: "h1", Driver: "ann", Time: api.Window{From: 20, To: 1500}, Legs: []api.Leg{
			{Vehicle: "v1", Out: reading(20, "s1", 999_990, 8), In: reading(60, "s1", 5, 7)},
			{Vehicle: "v2", Out: reading(60, "s1", 100, 8), In: reading(1540, "s2", 250, 4)},
		}},
		{Key: "h4", Driver: "bob", Time: api.Window{From: 1600, To: 3000}, Legs: []api.Leg{
			{Vehicle: "v3", Out: reading(1600, "s2", 0, 0), In: api.Reading{At: -1}},
		}},
	})
}

// P8.2: the log, the bookings and the hires are in the orders of their chapters, not in that of the entries.
func TestFollowedInOrder(t *testing.T) {
	l := []api.Entry{
		entry(5, "d1", 1, "enter v3 s1"), entry(5, "d1", 2, "enter v1 s1"), entry(5, "d2", 1, "enter v2 s1"),
		entry(6, "d1", 3, "start h3 ann 90 v2 s1 0 0"), entry(6, "d1", 4, "start h1 ann 90 v3 s1 0 0"), entry(6, "d2", 2, "start h2 ann 90 v1 s1 0 0"),
		entry(6, "d2", 3, "book z mini 10 20 5"), entry(6, "d2", 4, "book a mini 10 20 5"),
	}
	k := knowing(t, house(), l)
	same(t, "refused", k.refused, nil)
	var vehicles, keys []string
	for _, v := range k.log {
		vehicles = append(vehicles, v.Vehicle)
	}
	for _, b := range k.bookings {
		keys = append(keys, b.Key)
	}
	for _, h := range k.hires {
		keys = append(keys, h.Key)
	}
	same(t, "log", vehicles, []string{"v1", "v2", "v3", "v1", "v2", "v3"})
	same(t, "keys", keys, []string{"a", "z", "h1", "h2", "h3"})
}

// before are the entries behind which those of the tests of errors come, with 100 as At: v1 is ready at s1, v2 in the shop there since 100, v3 in the hire h1. The hire h2 is not open. There is a booking b1.
func before() []string {
	return []string{
		"10 enter v1 s1", "10 enter v2 s1", "10 enter v3 s1",
		"20 start h2 bob 60 v3 s1 0 0", "30 close h2 s1 0 0", "30 pay h2 999999999",
		"30 book b1 mini 500 600 5",
		"40 start h1 ann 1000 v3 s1 0 0",
		"100 shop v2 s1",
	}
}

// P8.2: why an entry is refused. It says nothing then.
func TestRefused(t *testing.T) {
	cases := []struct {
		words string
		want  api.Errno
	}{
		// Events: of several faults the first one counts.
		{"enter v1 s1", api.ErrState},
		{"enter v9 s1", api.ErrNone},
		{"enter v1 s9", api.ErrNone},
		{"enter V s1", api.ErrNone},
		{"shop v1 s1", api.OK},
		{"shop v1 s2", api.ErrState},
		{"shop v2 s9", api.ErrNone},
		{"shop v3 s1", api.ErrState},
		{"done v1 s1", api.ErrState},
		{"done v2 s1", api.ErrTwice},
		{"done v2 s2", api.ErrTwice},
		{"come v1 s1", api.ErrState},
		{"gone v1 s1", api.OK},
		{"leave v1 s1 s2", api.OK},
		{"leave v1 s2 s1", api.ErrState},
		{"leave v1 s1 s9", api.ErrNone},
		{"leave v1 s9 s9", api.ErrNone},
		{"leave v9 s1 s1", api.ErrNone},
		{"leave v1 s1 s1", api.ErrLoop},
		{"leave v2 s1 s1", api.ErrLoop},
		{"leave v2 s1 s2", api.ErrTwice},
		// Bookings.
		{"book b2 mini 100 101 0", api.OK},
		{"book b2 mini 100 101 100", api.OK},
		{"book B mini 100 101 0", api.ErrName},
		{"book b2 Mini 99 101 0", api.ErrName},
		{"book b2 maxi 99 101 0", api.ErrArg},
		{"book b2 mini 99 101 0", api.ErrArg},
		{"book b2 mini 100 100 0", api.ErrArg},
		{"book b2 mini -1 200 0", api.ErrArg},
		{"book b2 mini 100 5761439 0", api.OK},
		{"book b2 mini 100 5761440 0", api.ErrArg},
		{"book b2 mini 100 101 -1", api.ErrArg},
		{"book b2 mini 100 101 101", api.ErrArg},
		{"book b2 maxi 100 101 0", api.ErrNone},
		{"book b1 maxi 100 101 0", api.ErrNone},
		{"book b1 mini 100 101 0", api.ErrTwice},
		{"book h1 mini 100 101 0", api.ErrTwice},
		{"book h2 mini 100 101 0", api.ErrTwice},
		{"cancel b1", api.OK},
		{"cancel b2", api.ErrNone},
		{"cancel h1", api.ErrNone},
		{"cancel B", api.ErrNone},
		// Starts.
		{"start h3 eve 200 v1 s1 0 0", api.OK},
		{"start b1 eve 200 v1 s1 999999 8", api.OK},
		{"start H eve 200 v9 s1 0 0", api.ErrName},
		{"start h3 Eve 200 v1 s1 0 0", api.ErrName},
		{"start h3 eve 100 v1 s1 0 0", api.ErrArg},
		{"start h1 eve 172900 v1 s1 0 0", api.ErrTwice},
		{"start h1 eve 172901 v1 s1 0 0", api.ErrLarge},
		{"start h3 eve 200 V s9 -1 0", api.ErrName},
		{"start h3 eve 200 v9 S 0 0", api.ErrName},
		{"start h3 eve 200 v9 s1 -1 0", api.ErrArg},
		{"start h3 eve 200 v1 s1 1000000 0", api.ErrArg},
		{"start h1 eve 200 v1 s1 0 9", api.ErrArg},
		{"start h3 eve 200 v1 s1 0 -1", api.ErrArg},
		{"start h1 eve 200 v9 s1 0 0", api.ErrTwice},
		{"start h2 eve 200 v1 s1 0 0", api.ErrTwice},
		{"start h3 eve 200 v9 s1 0 0", api.ErrNone},
		{"start h3 eve 200 v2 s9 0 0", api.ErrNone},
		{"start h3 eve 200 v2 s2 0 0", api.ErrTwice},
		{"start h3 eve 200 v1 s2 0 0", api.ErrState},
		{"start h3 eve 200 v3 s1 0 0", api.ErrState},
		// Swaps.
		{"swap h1 s1 0 0 v1 0 0", api.OK},
		{"swap h3 s1 -1 0 v1 0 0", api.ErrNone},
		{"swap b1 s1 0 0 v1 0 0", api.ErrNone},
		{"swap h2 s1 -1 0 v1 0 0", api.ErrState},
		{"swap h1 s1 -1 0 v9 0 0", api.ErrArg},
		{"swap h1 s1 0 9 v9 0 0", api.ErrArg},
		{"swap h1 s1 0 0 v9 -1 0", api.ErrArg},
		{"swap h1 s1 0 0 v9 0 9", api.ErrArg},
		{"swap h1 S 0 0 v1 0 0", api.ErrName},
		{"swap h1 s1 0 0 V 0 0", api.ErrName},
		{"swap h1 s9 0 0 v3 0 0", api.ErrRule},
		{"swap h1 s9 0 0 v2 0 0", api.ErrNone},
		{"swap h1 s1 0 0 v9 0 0", api.ErrNone},
		{"swap h1 s2 0 0 v2 0 0", api.ErrTwice},
		{"swap h1 s2 0 0 v1 0 0", api.ErrState},
		// Extensions.
		{"extend h1 41", api.OK},
		{"extend h1 172840", api.OK},
		{"extend h1 40", api.ErrArg},
		{"extend h1 -1", api.ErrArg},
		{"extend h1 172841", api.ErrLarge},
		{"extend h2 40", api.ErrState},
		{"extend h3 40", api.ErrNone},
		{"extend b1 400", api.ErrNone},
		// Ends.
		{"close h1 s2 999999 8", api.OK},
		{"close h3 s1 -1 0", api.ErrNone},
		{"close h2 s1 -1 0", api.ErrState},
		{"close h1 s9 -1 0", api.ErrArg},
		{"close h1 s9 0 9", api.ErrArg},
		{"close h1 S 0 0", api.ErrName},
		{"close h1 s9 0 0", api.ErrNone},
		// Payments.
		{"pay h1 0", api.OK},
		{"pay h1 999999999", api.OK},
		{"pay h2 0", api.OK},
		{"pay h2 1", api.OK},
		{"pay h2 2", api.ErrLarge},
		{"pay h2 -1", api.ErrArg},
		{"pay h1 -999999999", api.ErrArg},
		{"pay h3 -1", api.ErrNone},
		{"pay b1 1", api.ErrNone},
	}
	without := knowing(t, house(), said(before()...))
	same(t, "what comes before", without.refused, nil)
	for _, c := range cases {
		l := said(append(before(), "100 "+c.words)...)
		k := knowing(t, house(), l)
		var want []api.Refusal
		if c.want != api.OK {
			want = []api.Refusal{{Entry: len(l) - 1, Why: c.want}}
		}
		same(t, c.words, k.refused, want)
		if c.want != api.OK {
			k.refused = nil
			sameKnown(t, c.words, k, without)
		}
	}
}

// P8.2: nothing happens to a vehicle twice at one moment, whatever it is.
func TestTwiceAtOneMoment(t *testing.T) {
	cases := []struct {
		first, second string
		want          api.Errno
	}{
		{"enter v1 s1", "enter v1 s1", api.ErrTwice},
		{"enter v1 s1", "shop v1 s1", api.ErrTwice},
		{"enter v1 s1", "start h1 ann 90 v1 s1 0 0", api.ErrTwice},
		{"start h5 ann 90 v2 s1 0 0", "gone v2 s1", api.ErrTwice},
		{"start h5 ann 90 v2 s1 0 0", "close h5 s1 0 0", api.ErrOrder},
		{"start h5 ann 90 v2 s1 0 0", "swap h5 s1 0 0 v3 0 0", api.ErrOrder},
		{"close h0 s1 0 0", "start h5 ann 90 v4 s1 0 0", api.ErrTwice},
		{"close h0 s1 0 0", "swap h00 s1 0 0 v4 0 0", api.ErrTwice},
		{"swap h0 s1 0 0 v2 0 0", "shop v4 s1", api.ErrTwice},
		{"swap h0 s1 0 0 v2 0 0", "shop v2 s1", api.ErrTwice},
		{"swap h0 s1 0 0 v2 0 0", "close h0 s1 0 0", api.ErrOrder},
		{"swap h0 s1 0 0 v2 0 0", "extend h0 200", api.OK},
		{"swap h0 s1 0 0 v2 0 0", "swap h00 s1 0 0 v3 0 0", api.OK},
	}
	h := house()
	h.Fleet.Vehicles = append(h.Fleet.Vehicles, api.Vehicle{Key: "v4", Class: "midi"}, api.Vehicle{Key: "v5", Class: "midi"})
	for _, c := range cases {
		l := said("0 enter v2 s1", "0 enter v3 s1", "0 enter v4 s1", "0 enter v5 s1", "5 start h0 eve 99 v4 s1 0 0", "5 start h00 eve 99 v5 s1 0 0", "50 "+c.first, "50 "+c.second)
		var want []api.Refusal
		if c.want != api.OK {
			want = []api.Refusal{{Entry: len(l) - 1, Why: c.want}}
		}
		refused, _ := desk.Refused(h, l)
		same(t, c.first+", "+c.second, refused, want)
	}
	// The first moment is no exception: the state of a vehicle without events has Since 0 too.
	refused, _ := desk.Refused(h, said("0 shop v1 s1", "0 enter v1 s1", "0 shop v1 s1"))
	same(t, "at 0", refused, []api.Refusal{{Entry: 0, Why: api.ErrState}, {Entry: 2, Why: api.ErrTwice}})
}

// P8.2: each form has just its words, with single blanks between, and numbers as in Z10.
func TestForms(t *testing.T) {
	forms := []string{
		"enter v9 s1", "shop v9 s1", "done v9 s1", "come v9 s1", "gone v9 s1", "leave v9 s1 s2",
		"book B maxi 10 20 5", "cancel b9", "start H ann 20 v1 s1 0 0", "swap h9 s1 0 0 v1 0 0", "extend h9 20", "close h9 s1 0 0", "pay h9 5",
	}
	why := func(words string) api.Errno {
		refused, e := desk.Refused(house(), []api.Entry{entry(5, "d1", 1, words)})
		if e != api.OK || len(refused) != 1 {
			t.Fatalf("%q: %v, error %d", words, refused, e)
		}
		return refused[0].Why
	}
	for _, form := range forms {
		is(t, form, why(form) == api.ErrSyntax, false)
		words := strings.Split(form, " ")
		wrong := []string{
			form + " ", " " + form, form + " x", form + " 5", strings.Replace(form, " ", "  ", 1), strings.Join(words[:len(words)-1], " "),
			words[0], "x" + form, strings.ToUpper(form[:1]) + form[1:], words[0] + "s " + strings.Join(words[1:], " "),
		}
		for _, w := range wrong {
			is(t, w, why(w), api.ErrSyntax)
		}
		for i, word := range words {
			for _, number := range []string{"x", "-", "01", "-0", "+1", "1.5", "1_0", "1000000000", "-1000000000", "0x1"} {
				l := slices.Clone(words)
				l[i] = number
				isNumber := strings.Trim(word, "0123456789") == ""
				is(t, strings.Join(l, " "), why(strings.Join(l, " ")) == api.ErrSyntax, isNumber || i == 0)
			}
			for _, number := range []string{"0", "999999999", "-1", "-999999999"} {
				l := slices.Clone(words)
				l[i] = number
				is(t, strings.Join(l, " "), why(strings.Join(l, " ")) == api.ErrSyntax, i == 0)
			}
		}
	}
	for _, words := range []string{" ", "x", "out v1 s1", "back v1 s1", "at 5", "state v1", "ready s1 mini", "ledger", "refused", "bill h1", "balance h1", "quote mini 0 9 s1 s1", "ok", "-"} {
		is(t, words, why(words), api.ErrSyntax)
	}
}

// P8.2: each chapter's errors come behind those of the house, and of the entries.
func TestErrorsFirst(t *testing.T) {
	type values struct {
		h   api.House
		l   []api.Entry
		key string
	}
	whole := func() values { return values{house(), someSaid(), "h1"} }
	faults := []fault[values]{
		{"house", func(v *values) { v.h.Fleet.Classes[0].Up = "mini" }, api.ErrLoop},
		{"tariff", func(v *values) { v.h.Tariff.Taxes[0].On = []int{api.LineTax} }, api.ErrKind},
		{"deal", func(v *values) { v.h.Deal.Grace = -1 }, api.ErrArg},
		{"entries", func(v *values) { v.l[3].Words = "" }, api.ErrForm},
	}
	// Z3
	nothing := func(what string, e api.Errno, many int) api.Errno {
		t.Helper()
		is(t, what+" with an error", e != api.OK && many != 0, false)
		return e
	}
	inOrder(t, "Refused", whole, func(v values) api.Errno {
		l, e := desk.Refused(v.h, v.l)
		return nothing("Refused", e, len(l))
	}, faults)
	inOrder(t, "Log", whole, func(v values) api.Errno {
		l, e := desk.Log(v.h, v.l)
		return nothing("Log", e, len(l))
	}, faults)
	inOrder(t, "Bookings", whole, func(v values) api.Errno {
		l, e := desk.Bookings(v.h, v.l)
		return nothing("Bookings", e, len(l))
	}, faults)
	inOrder(t, "Hires", whole, func(v values) api.Errno {
		l, e := desk.Hires(v.h, v.l)
		return nothing("Hires", e, len(l))
	}, faults)
	inOrder(t, "Ledger", whole, func(v values) api.Errno {
		l, e := desk.Ledger(v.h, v.l)
		return nothing("Ledger", e, len(l))
	}, faults)
	faults = append(faults,
		fault[values]{"no hire", func(v *values) { v.key = "h9" }, api.ErrNone},
		fault[values]{"a booking", func(v *values) { v.key = "h3" }, api.ErrNone},
		fault[values]{"no key", func(v *values) { v.key = "" }, api.ErrNone},
		fault[values]{"an open hire", func(v *values) { v.key = "h4" }, api.ErrState},
	)
	inOrder(t, "Lines", whole, func(v values) api.Errno {
		l, e := desk.Lines(v.h, v.l, v.key)
		return nothing("Lines", e, len(l))
	}, faults)
	inOrder(t, "Balance", whole, func(v values) api.Errno {
		cents, e := desk.Balance(v.h, v.l, v.key)
		return nothing("Balance", e, cents)
	}, faults)
}

// P8.2: there are at most MaxBookings; that one is gone makes room.
func TestMostBookings(t *testing.T) {
	lines := many(api.MaxBookings, func(i int) string { return fmt.Sprint("5 book ", key(i), " mini 50 60 5") })
	lines = append(lines,
		"6 book a maxi 50 60 5", "6 book k00000 mini 50 60 5", "6 book a mini 50 60 5",
		"7 cancel k00007", "7 book a mini 50 60 5", "7 book b mini 50 60 5",
		"8 enter v1 s1", "9 start k00009 ann 99 v1 s1 0 0", "9 book b mini 50 60 5", "9 book c mini 50 60 5",
	)
	k := knowing(t, house(), said(lines...))
	same(t, "refused", k.refused, []api.Refusal{{Entry: 500, Why: api.ErrNone}, {Entry: 501, Why: api.ErrTwice}, {Entry: 502, Why: api.ErrFull}, {Entry: 505, Why: api.ErrFull}, {Entry: 509, Why: api.ErrFull}})
	is(t, "bookings", len(k.bookings), api.MaxBookings)
}

// P8.2: as many hires as entries have room for, and as many events.
func TestMostHires(t *testing.T) {
	h := house()
	h.Fleet.Vehicles = many(500, func(i int) api.Vehicle { return api.Vehicle{Key: key(i), Class: "mini"} })
	h.Fleet.Plates = nil
	lines := append(many(500, func(i int) string { return fmt.Sprint("1 enter ", key(i), " s1") }),
		many(500, func(i int) string { return fmt.Sprint("2 start ", key(i), " ann 90 ", key(i), " s1 0 0") })...)
	k := knowing(t, h, said(lines...))
	same(t, "refused", k.refused, nil)
	is(t, "hires", len(k.hires), api.MaxHires)
	is(t, "events", len(k.log), 1000)
	// A hire has at most MaxLegs.
	lines = []string{"1 enter k00000 s1", "1 enter k00001 s1", "2 start h1 ann 90 k00000 s1 0 0"}
	for i := range api.MaxLegs {
		lines = append(lines, fmt.Sprint(i+3, " swap h1 s1 0 0 ", key(1-i%2), " 0 0"))
	}
	k = knowing(t, h, said(lines...))
	same(t, "swaps", k.refused, []api.Refusal{{Entry: len(lines) - 1, Why: api.ErrLarge}})
	is(t, "legs", len(k.hires[0].Legs), api.MaxLegs)
}

// P8.2: what a booking is for does not bind the hire, and a key that has been free again can be booked.
func TestBookAgain(t *testing.T) {
	k := knowing(t, house(), said("1 book h1 mini 10 20 5", "2 cancel h1", "3 book h1 midi 30 40 5", "4 enter v1 s1", "5 start h1 ann 9 v1 s1 0 0", "6 cancel h1", "7 close h1 s1 0 0", "8 book h1 mini 10 20 5"))
	same(t, "refused", k.refused, []api.Refusal{{Entry: 5, Why: api.ErrNone}, {Entry: 7, Why: api.ErrTwice}})
	same(t, "bookings", k.bookings, nil)
	is(t, "hires", len(k.hires), 1)
}
