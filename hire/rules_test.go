package hire_test

import (
	"fmt"
	"math/rand"
	"sync"
	"testing"

	"forecourt/api"
	"forecourt/hire"
)

// everything calls all functions, and puts all results together.
func everything(l []api.Hire, bill []api.Line, drivers []api.Driver, ages []api.Age) string {
	var all []any
	put := func(results ...any) { all = append(all, results...) }
	put(hire.CheckDeal(deal()), hire.CheckAll(l), hire.CheckDrivers(drivers))
	for _, h := range l {
		put(hire.Check(h))
		at := h.Legs[len(h.Legs)-1].Out.At + 9
		next, e := hire.Exchange(h, reading(at, "s2", 9, 1), "v9", reading(at, "s2", 7, 5))
		put(next, e)
		next, e = hire.Extend(h, 500)
		put(next, e)
		next, e = hire.Close(h, reading(at+900, "s1", 3, 3))
		put(next, e)
		km, e := hire.Km(next)
		put(km, e)
		missing, e := hire.Missing(next)
		put(missing, e)
		minutes, cents, e := hire.Late(deal(), next)
		put(minutes, cents, e)
		lines, e := hire.Bill(deal(), next, bill)
		put(lines, e)
		back, due, e := hire.Settle(deal(), lines, 5)
		put(back, due, e)
		events, e := hire.Events(h)
		put(events, e)
		text, e := hire.Text(h)
		put(text, e)
		read, line, e := hire.Read(text)
		put(read, line, e)
	}
	first, e := hire.Start("x", "ann", api.Window{From: 5, To: 9}, "v1", reading(5, "s1", 1, 1))
	put(first, e)
	clashes, e := hire.Clashes(l)
	put(clashes, e)
	key, ok, e := hire.With(l, "v1", 20)
	put(key, ok, e)
	overdue, e := hire.Overdue(l, 60)
	put(overdue, e)
	may, e := hire.May(drivers, ages, "ann", "mini", days(1, 2))
	put(may, e)
	return fmt.Sprint(all...)
}

func someLines() []api.Line {
	return []api.Line{line(api.LinePiece, "day", 500), line(api.LineTax, "vat", 100)}
}

// Z2, Z7: arguments stay as they are, what is behind their ends is not looked at, and the results are the same each time.
func TestArgumentsStay(t *testing.T) {
	first := everything(hires(), someLines(), drivers(), ages())
	l := append(hires(), api.Hire{Key: "behind"})
	for i := range 3 {
		l[i].Legs = append(l[i].Legs, api.Leg{Vehicle: "behind"})[:len(l[i].Legs)]
	}
	bill := append(someLines(), api.Line{Key: "behind"})
	d, a := append(drivers(), api.Driver{Key: "behind"}), append(ages(), api.Age{Class: "behind"})
	for range 20 {
		is(t, "again", everything(l[:3], bill[:2], d[:3], a[:3]), first)
	}
	for i, h := range hires() {
		sameHire(t, "hires", l[i], h)
		is(t, "behind the legs", l[i].Legs[:len(h.Legs)+1][len(h.Legs)].Vehicle, "behind")
	}
	is(t, "behind the hires", l[3].Key, "behind")
	same(t, "lines", bill, append(someLines(), api.Line{Key: "behind"}))
	same(t, "drivers", d, append(drivers(), api.Driver{Key: "behind"}))
	same(t, "ages", a, append(ages(), api.Age{Class: "behind"}))
}

// Z2: the lines of a bill are not those that were handed in, also where nothing is added.
func TestBillIsNew(t *testing.T) {
	l := someLines()
	bill, _ := hire.Bill(api.Deal{}, ended(), l)
	bill[0].Cents = 7
	same(t, "lines", l, someLines())
}

// Z1: functions without objects can be called by any number of goroutines at once.
func TestManyAtOnce(t *testing.T) {
	l, bill, d, a := hires(), someLines(), drivers(), ages()
	want := everything(l, bill, d, a)
	got := make([]string, 8)
	var group sync.WaitGroup
	for i := range got {
		group.Go(func() { got[i] = everything(l, bill, d, a) })
	}
	group.Wait()
	for _, text := range got {
		is(t, "at once", text, want)
	}
}

// Z1, Z3: nothing panics, and with an error other results are zero values, whatever the numbers are.
func TestAnyNumbers(t *testing.T) {
	r := rand.New(rand.NewSource(17))
	number := func() int {
		return []int{least, -50_000, -1, -1, 0, 1, 2, 5, 100, api.MaxMeter, api.End - 1, api.End, greatest}[r.Intn(13)]
	}
	word := func() string { return []string{"", "a", "b", "B"}[r.Intn(4)] }
	someReading := func() api.Reading { return reading(number(), word(), number(), number()) }
	window := func() api.Window { return api.Window{From: number(), To: number()} }
	someLeg := func(int) api.Leg { return api.Leg{Vehicle: word(), Out: someReading(), In: someReading()} }
	zero := func(what string, e api.Errno, none bool) {
		t.Helper()
		is(t, what, e != api.OK && !none, false)
	}
	for range 10_000 {
		h := api.Hire{Key: word(), Driver: word(), Time: window(), Legs: many(r.Intn(3), someLeg)}
		if r.Intn(2) == 0 {
			h = []api.Hire{open(), ended(), {}}[r.Intn(3)]
		}
		d := api.Deal{Free: number(), Km: number(), Eighth: number(), Grace: number(), Hour: number(), Day: number(), Deposit: number()}
		if r.Intn(2) == 0 {
			d = mostDeal()
		}
		next, e := hire.Start(word(), word(), window(), word(), someReading())
		zero("Start", e, isNone(next))
		next, e = hire.Exchange(h, someReading(), word(), someReading())
		zero("Exchange", e, isNone(next))
		next, e = hire.Extend(h, number())
		zero("Extend", e, isNone(next))
		next, e = hire.Close(h, someReading())
		zero("Close", e, isNone(next))
		n, e := hire.Km(h)
		zero("Km", e, n == 0)
		n, e = hire.Missing(h)
		zero("Missing", e, n == 0)
		n, m, e := hire.Late(d, h)
		zero("Late", e, n == 0 && m == 0)
		lines := []api.Line{line(r.Intn(8), word(), number())}
		bill, e := hire.Bill(d, h, lines)
		zero("Bill", e, len(bill) == 0)
		n, m, e = hire.Settle(d, lines, number())
		zero("Settle", e, n == 0 && m == 0)
		l := []api.Hire{h, one("x", "ann", "v1", 5, 9, -1)}
		clashes, e := hire.Clashes(l)
		zero("Clashes", e, len(clashes) == 0)
		key, ok, e := hire.With(l, word(), number())
		zero("With", e, key == "" && !ok)
		keys, e := hire.Overdue(l, number())
		zero("Overdue", e, len(keys) == 0)
		may, e := hire.May([]api.Driver{{Key: word(), Born: number(), From: number(), To: number()}}, []api.Age{{Class: word(), Days: number()}}, word(), word(), window())
		zero("May", e, !may)
		events, e := hire.Events(h)
		zero("Events", e, len(events) == 0)
		text, e := hire.Text(h)
		zero("Text", e, text == "")
	}
}
