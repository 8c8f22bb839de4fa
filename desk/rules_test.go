package desk_test

import (
	"fmt"
	"math/rand"
	"strings"
	"sync"
	"testing"

	"forecourt/api"
	"forecourt/desk"
)

// values are arguments for all functions.
type values struct {
	h      api.House
	a, b   []api.Entry
	key    string
	name   string
	script string
}

func someValues() values {
	return values{house(), someSaid(), []api.Entry{entry(15, "d2", 1, "enter v2 s2"), entry(50, "d2", 2, "dance")}, "h1", "d3", "at 5\nenter v1 s1\nstate v1\nrefused\n"}
}

// everything calls all functions, and puts all results together.
func everything(v values) string {
	var all []any
	put := func(results ...any) { all = append(all, results...) }
	put(desk.CheckHouse(v.h), desk.Check(v.a), desk.Session(v.h, v.name, v.script))
	merged, e := desk.Merge(v.a, v.b)
	put(merged, e)
	refused, e := desk.Refused(v.h, merged)
	put(refused, e)
	log, e := desk.Log(v.h, merged)
	put(log, e)
	bookings, e := desk.Bookings(v.h, merged)
	put(bookings, e)
	hires, e := desk.Hires(v.h, merged)
	put(hires, e)
	lines, e := desk.Lines(v.h, v.a, v.key)
	put(lines, e)
	balance, e := desk.Balance(v.h, v.a, v.key)
	put(balance, e)
	ledger, e := desk.Ledger(v.h, merged)
	put(ledger, e)
	text, e := desk.Text(merged)
	put(text, e)
	read, line, e := desk.Read(text)
	put(read, line, e)
	d, e := desk.New(v.h, v.name)
	put(e, d.Take(v.a), d.Take(v.b), d.Entries())
	for line := range strings.SplitSeq(v.script+"enter v3 s1\nledger\nbill h1", "\n") {
		put(d.Do(line))
	}
	return fmt.Sprint(all...)
}

// Z2, Z7: arguments stay as they are, what is behind their ends is not looked at, and the results are the same each time.
func TestArgumentsStay(t *testing.T) {
	first := everything(someValues())
	v := someValues()
	f, s := &v.h.Fleet, &v.h.Tariff
	f.Stations = append(f.Stations, api.Station{Key: "Behind"})[:len(f.Stations)]
	f.Classes = append(f.Classes, api.Class{Key: "Behind"})[:len(f.Classes)]
	f.Vehicles = append(f.Vehicles, api.Vehicle{Key: "Behind"})[:len(f.Vehicles)]
	f.Plates = append(f.Plates, api.Plate{Plate: "Behind"})[:len(f.Plates)]
	s.Rates = append(s.Rates, api.Rate{Class: "Behind"})[:len(s.Rates)]
	s.Fees = append(s.Fees, api.Fee{A: "Behind"})[:len(s.Fees)]
	s.Taxes = append(s.Taxes, api.Tax{Key: "Behind"})[:len(s.Taxes)]
	s.Taxes[0].On = append(s.Taxes[0].On, 99)[:1]
	v.a = append(v.a, api.Entry{Words: "behind"})[:len(v.a)]
	v.b = append(v.b, api.Entry{Words: "behind"})[:len(v.b)]
	whole := fmt.Sprint(v)
	for range 20 {
		is(t, "again", everything(v), first)
	}
	is(t, "arguments", fmt.Sprint(v), whole)
	is(t, "behind a", v.a[:len(v.a)+1][len(v.a)].Words, "behind")
	is(t, "behind b", v.b[:len(v.b)+1][len(v.b)].Words, "behind")
	is(t, "behind a tax", v.h.Tariff.Taxes[0].On[:2][1], 99)
	is(t, "behind the vehicles", f.Vehicles[:len(f.Vehicles)+1][len(f.Vehicles)].Key, "Behind")
}

// Z2: what is put together with nothing is new memory, and so is what a desk hands out.
func TestResultsAreNew(t *testing.T) {
	a := someSaid()
	for _, lists := range [][2][]api.Entry{{a, nil}, {nil, a}} {
		l, _ := desk.Merge(lists[0], lists[1])
		l[0].Words = "x"
	}
	same(t, "entries", a, someSaid())
	hires, _ := desk.Hires(house(), a)
	hires[0].Legs[0].Vehicle = "x"
	again, _ := desk.Hires(house(), a)
	is(t, "hires", again[0].Legs[0].Vehicle, "v1")
}

// Z1: functions without objects can be called by any number of goroutines at once, and so can objects of their own.
func TestManyAtOnce(t *testing.T) {
	v := someValues()
	want := everything(v)
	got := make([]string, 8)
	var group sync.WaitGroup
	for i := range got {
		group.Go(func() { got[i] = everything(v) })
	}
	group.Wait()
	for _, text := range got {
		is(t, "at once", text, want)
	}
}

// Z1, Z3, Z6: nothing panics, and with an error other results are zero values, whatever the numbers and the words are.
func TestAnyValues(t *testing.T) {
	r := rand.New(rand.NewSource(87))
	number := func() int {
		return pick(r, least, -api.DayLong, -1, 0, 1, 2, 5, 100, 999_999, 1_000_000, api.MaxCents, api.End-1, api.End, greatest)
	}
	word := func() string {
		return pick(r, "", "h1", "s1", "v1", "mini", "enter", "start", "swap", "close", "book", "-1", "0", "5", "999999999", "D", "\xff", "\n", strings.Repeat("x", 300))
	}
	line := func() string {
		if r.Intn(3) > 0 {
			return someWords(r, r.Intn(50))
		}
		return strings.Join(many(r.Intn(9), func(int) string { return word() }), " ")
	}
	zero := func(what string, e api.Errno, none bool) {
		t.Helper()
		is(t, what, e != api.OK && !none, false)
	}
	for range 5_000 {
		h := house()
		if r.Intn(2) == 0 {
			h.Deal = api.Deal{Free: number(), Km: number(), Eighth: number(), Grace: number(), Hour: number(), Day: number(), Deposit: number()}
		}
		if r.Intn(2) == 0 {
			h.Tariff.Rates[0].Day, h.Tariff.Fees[0].Cents, h.Tariff.Taxes[0].Permille = number(), number(), number()
		}
		l := many(r.Intn(6), func(i int) api.Entry { return entry(i, "d1", i+1, line()) })
		if len(l) > 0 && r.Intn(2) == 0 {
			l[0] = entry(number(), word(), number(), line())
		}
		merged, e := desk.Merge(l, someSaid())
		zero("Merge", e, len(merged) == 0)
		refused, e := desk.Refused(h, l)
		zero("Refused", e, len(refused) == 0)
		log, e := desk.Log(h, l)
		zero("Log", e, len(log) == 0)
		bookings, e := desk.Bookings(h, l)
		zero("Bookings", e, len(bookings) == 0)
		hires, e := desk.Hires(h, l)
		zero("Hires", e, len(hires) == 0)
		lines, e := desk.Lines(h, l, word())
		zero("Lines", e, len(lines) == 0)
		cents, e := desk.Balance(h, l, word())
		zero("Balance", e, cents == 0)
		ledger, e := desk.Ledger(h, l)
		zero("Ledger", e, len(ledger) == 0)
		text, e := desk.Text(l)
		zero("Text", e, text == "")
		read, number, e := desk.Read(strings.Join([]string{word(), word(), word(), line()}, " ") + pick(r, "", "\n"))
		zero("Read", e, len(read) == 0 && (number == 0 || e == api.ErrSyntax))
		d, e := desk.New(h, word())
		zero("New", e, d == nil)
		if e == api.OK {
			d.Take(l)
			d.Do(line())
		}
		answers := desk.Session(h, "d1", line()+"\n"+line())
		is(t, "answers are lines", answers == "" || strings.HasSuffix(answers, "\n"), true)
	}
}

// Z1: the longest scripts, of a large house, return.
func TestLongSessions(t *testing.T) {
	h := house()
	h.Fleet.Vehicles = many(api.MaxVehicles, func(i int) api.Vehicle { return api.Vehicle{Key: key(i), Class: "mini"} })
	h.Fleet.Plates = many(api.MaxPlates, func(i int) api.Plate {
		return api.Plate{From: i, Vehicle: key(i % 500), Plate: fmt.Sprintf("P%07d", i)}
	})
	var hires strings.Builder
	for i := range 333 {
		fmt.Fprintf(&hires, "enter %s s1\n", key(i))
	}
	hires.WriteString("at 1\n")
	for i := range 333 {
		fmt.Fprintf(&hires, "start h%d ann %d %s s1 0 8\n", i, 100*api.DayLong, key(i))
	}
	hires.WriteString("at 2\n")
	for i := range 333 {
		fmt.Fprintf(&hires, "close h%d s2 0 8\n", i)
	}
	// 999 entries; one more fits.
	const begin = 333*3 + 2
	left := api.MaxText - hires.Len()
	for line, most := range map[string]int{
		"ledger": left, "refused": left, "bill h7": left, "cancel x": left, "x": left,
		"shop k00001 s1": left, "enter k00400 s1": left,
		// Chapter 1 checks the fleet and the log each time.
		"state k00001": 1000, "ready s2 mini": 1000,
	} {
		count := min(most, left/(len(line)+1))
		answers := desk.Session(h, "d1", hires.String()+strings.Repeat(line+"\n", count))
		is(t, line, strings.Count(answers, "\n") >= begin+count, true)
		is(t, line, strings.HasPrefix(answers, strings.Repeat("ok\n", begin)), true)
	}
}
