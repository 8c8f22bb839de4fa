package desk_test

import (
	"fmt"
	"math/rand"
	"strings"
	"testing"

	"forecourt/api"
	"forecourt/desk"
)

// houseFaults are those of its parts, in their order.
var houseFaults = []fault[api.House]{
	{"a station", func(h *api.House) { h.Fleet.Stations[0].Key = "S" }, api.ErrName},
	{"a class", func(h *api.House) { h.Fleet.Classes[0].Up = "mini" }, api.ErrLoop},
	{"a plate", func(h *api.House) { h.Fleet.Plates[0].Plate = "ab" }, api.ErrForm},
	{"a rate", func(h *api.House) { h.Tariff.Rates[0].From = -1 }, api.ErrArg},
	{"a tax", func(h *api.House) { h.Tariff.Taxes[1].Key = "vat" }, api.ErrTwice},
	{"the deal", func(h *api.House) { h.Deal.Eighth = -1 }, api.ErrArg},
}

// P8.1
func TestCheckHouse(t *testing.T) {
	is(t, "an empty house", desk.CheckHouse(api.House{}), api.OK)
	inOrder(t, "CheckHouse", house, desk.CheckHouse, houseFaults)
}

// P8.1
func TestCheck(t *testing.T) {
	right := func() []api.Entry {
		return []api.Entry{entry(10, "d1", 7, "x"), entry(10, "d2", 7, "x"), entry(20, "d1", 3, "x"), entry(20, "d1", 4, "x")}
	}
	is(t, "none", desk.Check(nil), api.OK)
	is(t, "some", desk.Check(right()), api.OK)
	checks := []struct {
		what string
		x    api.Entry
		want api.Errno
	}{
		{"the least", entry(0, "d", 1, " "), api.ErrOrder},
		{"a later one", entry(21, "d", 1, " "), api.OK},
		{"the latest", entry(api.End-1, longKey, 1_000_000, strings.Repeat("~", api.MaxWords)), api.OK},
		{"a moment below 0", entry(-1, "d5", 5, "x"), api.ErrArg},
		{"End", entry(api.End, "d5", 5, "x"), api.ErrArg},
		{"no desk", entry(20, "", 5, "x"), api.ErrName},
		{"no key", entry(20, "D5", 5, "x"), api.ErrName},
		{"a key that is too long", entry(20, longerKey, 5, "x"), api.ErrName},
		{"number 0", entry(20, "d5", 0, "x"), api.ErrArg},
		{"a number below 0", entry(20, "d5", least, "x"), api.ErrArg},
		{"the greatest number", entry(20, "d5", 1_000_000, "x"), api.OK},
		{"a greater number", entry(20, "d5", 1_000_001, "x"), api.ErrArg},
		{"no words", entry(20, "d5", 5, ""), api.ErrForm},
		{"MaxWords bytes", entry(20, "d5", 5, strings.Repeat("x", api.MaxWords)), api.OK},
		{"more", entry(20, "d5", 5, strings.Repeat("x", api.MaxWords+1)), api.ErrForm},
		{"byte 31", entry(20, "d5", 5, "a\x1fb"), api.ErrForm},
		{"a line feed", entry(20, "d5", 5, "a\n"), api.ErrForm},
		{"byte 127", entry(20, "d5", 5, "\x7f"), api.ErrForm},
		{"a byte above", entry(20, "d5", 5, "\xff"), api.ErrForm},
		{"blanks", entry(20, "d5", 5, "  a  "), api.OK},
		{"any words", entry(20, "d5", 5, "~ !"), api.OK},
		{"an earlier moment", entry(19, "d5", 5, "x"), api.ErrOrder},
		{"a lesser desk", entry(20, "d0", 5, "x"), api.ErrOrder},
		{"a lesser number", entry(20, "d1", 2, "x"), api.ErrOrder},
		{"the same place", entry(20, "d1", 4, "y"), api.ErrOrder},
		{"the same entry", entry(20, "d1", 4, "x"), api.ErrOrder},
		{"a greater number that is there", entry(20, "d1", 7, "x"), api.ErrTwice},
		{"a number that is there, later", entry(30, "d2", 7, "x"), api.ErrTwice},
		{"a number of another desk", entry(30, "d2", 3, "x"), api.OK},
		{"a lesser number, later", entry(30, "d1", 1, "x"), api.OK},
	}
	for _, c := range checks {
		is(t, c.what, desk.Check(append(right(), c.x)), c.want)
		if c.want != api.OK {
			is(t, c.what+", then others", desk.Check(append(right(), c.x, entry(-1, "", 0, ""))), c.want)
		}
	}
	full := many(api.MaxEntries, func(i int) api.Entry { return entry(5, "d1", i+1, "x") })
	is(t, "MaxEntries", desk.Check(full), api.OK)
	is(t, "more, of which one is wrong", desk.Check(append([]api.Entry{{At: -1}}, full...)), api.ErrLarge)
}

// P8.1: of one entry the errors come in this order.
func TestCheckOrder(t *testing.T) {
	whole := func() []api.Entry { return []api.Entry{entry(10, "d1", 7, "x"), entry(10, "d1", 8, "x")} }
	inOrder(t, "Check", whole, desk.Check, []fault[[]api.Entry]{
		{"At", func(l *[]api.Entry) { (*l)[1].At = -1 }, api.ErrArg},
		{"Desk", func(l *[]api.Entry) { (*l)[1].Desk = "D" }, api.ErrName},
		{"No", func(l *[]api.Entry) { (*l)[1].No = 0 }, api.ErrArg},
		{"Words", func(l *[]api.Entry) { (*l)[1].Words = "" }, api.ErrForm},
		{"order, and twice", func(l *[]api.Entry) { (*l)[1] = (*l)[0] }, api.ErrOrder},
	})
}

// P8.1
func TestMerge(t *testing.T) {
	x1, x2, x3, x4 := entry(10, "d1", 1, "a"), entry(10, "d1", 2, "b"), entry(10, "d2", 1, "c"), entry(30, "d1", 3, "d")
	late, spoilt, other := x1, x1, x1
	late.At, spoilt.Words, other.No = 20, "z", 9
	cases := []struct {
		what       string
		a, b, want []api.Entry
		e          api.Errno
	}{
		{"none", nil, nil, nil, api.OK},
		{"one list", []api.Entry{x1, x3}, nil, []api.Entry{x1, x3}, api.OK},
		{"the other one", nil, []api.Entry{x1, x3}, []api.Entry{x1, x3}, api.OK},
		{"in turns", []api.Entry{x1, x3}, []api.Entry{x2, x4}, []api.Entry{x1, x2, x3, x4}, api.OK},
		{"one behind the other", []api.Entry{x3, x4}, []api.Entry{x1, x2}, []api.Entry{x1, x2, x3, x4}, api.OK},
		{"equal ones", []api.Entry{x1, x2, x4}, []api.Entry{x1, x3, x4}, []api.Entry{x1, x2, x3, x4}, api.OK},
		{"the same list", []api.Entry{x1, x4}, []api.Entry{x1, x4}, []api.Entry{x1, x4}, api.OK},
		{"other words", []api.Entry{x1, x2}, []api.Entry{spoilt}, nil, api.ErrConflict},
		{"another moment", []api.Entry{x1, x2}, []api.Entry{late}, nil, api.ErrConflict},
		{"another moment, the other way round", []api.Entry{late}, []api.Entry{x1, x2}, nil, api.ErrConflict},
		{"another number", []api.Entry{x1, x2}, []api.Entry{other}, []api.Entry{x1, x2, other}, api.OK},
		{"an error of a", []api.Entry{x4, x1}, []api.Entry{{}, {}}, nil, api.ErrOrder},
		{"an error of b", []api.Entry{x1}, []api.Entry{spoilt, {At: -1}}, nil, api.ErrArg},
	}
	for _, c := range cases {
		l, e := desk.Merge(c.a, c.b)
		same(t, c.what, l, c.want)
		is(t, c.what, e, c.e)
	}
}

// P8.1: at the bound.
func TestMergeMany(t *testing.T) {
	row := func(desk string, count int) []api.Entry {
		return many(count, func(i int) api.Entry { return entry(i, desk, i+1, "x") })
	}
	l, e := desk.Merge(row("d1", 600), row("d2", 400))
	is(t, "MaxEntries", len(l), api.MaxEntries)
	is(t, "MaxEntries", e, api.OK)
	l, e = desk.Merge(row("d1", api.MaxEntries), row("d1", api.MaxEntries))
	is(t, "MaxEntries, twice the same", len(l), api.MaxEntries)
	is(t, "MaxEntries, twice the same", e, api.OK)
	l, e = desk.Merge(row("d1", 600), row("d2", 401))
	same(t, "one more", l, nil)
	is(t, "one more", e, api.ErrLarge)
	spoilt := row("d1", 401)
	spoilt[400].At++
	l, e = desk.Merge(row("d1", 600), spoilt)
	same(t, "one at another moment", l, nil)
	is(t, "one at another moment", e, api.ErrConflict)
	l, e = desk.Merge(row("d1", 1000), []api.Entry{entry(2000, "d1", 5, "x"), entry(2000, "d2", 5, "x")})
	same(t, "one at another moment, and too many", l, nil)
	is(t, "one at another moment, and too many", e, api.ErrConflict)
}

// P8.1: in whatever order lists are merged, the result is the same.
func TestMergeAtRandom(t *testing.T) {
	r := rand.New(rand.NewSource(80))
	for range 300 {
		whole := someEntries(r, r.Intn(30))
		parts := make([][]api.Entry, 4)
		for _, x := range whole {
			for range 1 + r.Intn(2) {
				if i := r.Intn(len(parts)); len(parts[i]) == 0 || parts[i][len(parts[i])-1] != x {
					parts[i] = append(parts[i], x)
				}
			}
		}
		for range 3 {
			r.Shuffle(len(parts), func(i, j int) { parts[i], parts[j] = parts[j], parts[i] })
			a, _ := desk.Merge(parts[0], parts[1])
			b, _ := desk.Merge(parts[2], parts[3])
			l, e := desk.Merge(a, b)
			is(t, "merged", e, api.OK)
			is(t, "merged", fmt.Sprint(l), fmt.Sprint(whole))
		}
	}
}
