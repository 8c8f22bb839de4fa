package desk_test

import (
	"fmt"
	"math/rand"
	"strconv"
	"strings"
	"testing"

	"forecourt/api"
	"forecourt/desk"
	"forecourt/lot"
	"forecourt/tariff"
)

// sameAnswers says that a desk with all entries answers what the functions of all entries say.
func sameAnswers(t *testing.T, r *rand.Rand, d *desk.Desk, h api.House, k known) {
	t.Helper()
	refused, ledger := "", ""
	for _, x := range k.refused {
		refused += fmt.Sprintln(x.Entry, int(x.Why))
	}
	for _, x := range k.ledger {
		ledger += fmt.Sprintln(x.Account, x.Cents)
	}
	is(t, "refused", d.Do("refused"), refused+"ok\n")
	is(t, "ledger", d.Do("ledger"), ledger+"ok\n")
	for _, x := range k.hires {
		lines, e := desk.Lines(h, d.Entries(), x.Key)
		cents, _ := desk.Balance(h, d.Entries(), x.Key)
		bill, balance := "", fmt.Sprintln(cents)
		for _, y := range lines {
			bill += fmt.Sprintln(y.Kind, y.Key, y.Cents)
		}
		bill += "ok\n"
		if e != api.OK {
			bill, balance = fmt.Sprintln("error", int(e)), fmt.Sprintln("error", int(e))
		}
		is(t, "bill", d.Do("bill "+x.Key), bill)
		is(t, "balance", d.Do("balance "+x.Key), balance)
	}
	at := 1_000_000 + r.Intn(9)
	d.Do("at " + strconv.Itoa(at))
	for _, v := range h.Fleet.Vehicles {
		s, _ := lot.StateOf(h.Fleet, k.log, v.Key, at)
		want := fmt.Sprintln(s.State, s.Station, s.Since)
		if s.Station == "" {
			want = fmt.Sprintln(s.State, "-", s.Since)
		}
		is(t, "state", d.Do("state "+v.Key), want)
	}
	for _, station := range h.Fleet.Stations {
		keys, _ := lot.Ready(h.Fleet, k.log, station.Key, "mini", at)
		is(t, "ready", d.Do("ready "+station.Key+" mini"), strings.Join(append(keys, "ok"), "\n")+"\n")
	}
}

// P8.5
func TestNew(t *testing.T) {
	inOrder(t, "New", house, func(h api.House) api.Errno {
		d, e := desk.New(h, "d1")
		is(t, "there is a desk", d != nil, e == api.OK)
		return e
	}, houseFaults)
	for name, want := range map[string]api.Errno{"d1": api.OK, longKey: api.OK, "": api.ErrName, "D": api.ErrName, "d 1": api.ErrName, longerKey: api.ErrName} {
		d, e := desk.New(house(), name)
		is(t, name, e, want)
		is(t, name+", a desk", d != nil, e == api.OK)
		bad := house()
		bad.Deal.Free = -1
		_, e = desk.New(bad, name)
		is(t, name+", and a wrong house", e, api.ErrArg)
	}
	d := newDesk(t, house(), "d1")
	same(t, "entries", d.Entries(), nil)
	is(t, "the first entry", d.Do("enter v1 s1"), "ok\n")
	same(t, "entries", d.Entries(), []api.Entry{entry(0, "d1", 1, "enter v1 s1")})
}

// P8.5
func TestTake(t *testing.T) {
	d := newDesk(t, house(), "d1")
	d.Do("enter v1 s1")
	same(t, "own", d.Entries(), []api.Entry{entry(0, "d1", 1, "enter v1 s1")})
	more := []api.Entry{entry(0, "d0", 3, "enter v1 s2"), entry(4, "d2", 1, "enter v2 s1")}
	is(t, "Take", d.Take(more), api.OK)
	all := []api.Entry{more[0], entry(0, "d1", 1, "enter v1 s1"), more[1]}
	same(t, "all", d.Entries(), all)
	// What this desk wrote is refused now.
	is(t, "refused", d.Do("refused"), "1 6\nok\n")
	is(t, "state", d.Do("state v1"), "1 s2 0\n")
	is(t, "later", d.Do("state v2"), "0 - 0\n")
	is(t, "again", d.Take(more), api.OK)
	is(t, "nothing", d.Take(nil), api.OK)
	same(t, "all", d.Entries(), all)
	full := many(api.MaxEntries-2, func(i int) api.Entry { return entry(9, "d3", i+1, "x") })
	for _, c := range []struct {
		what string
		l    []api.Entry
		want api.Errno
	}{
		{"a wrong entry", []api.Entry{entry(5, "d2", 2, "x"), entry(6, "d2", 3, "")}, api.ErrForm},
		{"no order", []api.Entry{more[1], more[0]}, api.ErrOrder},
		{"another moment", []api.Entry{entry(5, "d2", 1, "enter v2 s1")}, api.ErrConflict},
		{"other words", []api.Entry{entry(4, "d2", 1, "enter v2 s2"), entry(5, "d2", 2, "x")}, api.ErrConflict},
		{"too many", full, api.ErrLarge},
	} {
		is(t, c.what, d.Take(c.l), c.want)
		same(t, c.what, d.Entries(), all)
		is(t, c.what, d.Do("refused")+d.Do("state v1"), "1 6\nok\n1 s2 0\n")
	}
	is(t, "as many as can be", d.Take(full[:api.MaxEntries-3]), api.OK)
	is(t, "as many as can be", len(d.Entries()), api.MaxEntries)
	is(t, "one more", d.Do("enter v3 s1"), "error 2\n")
	is(t, "one more that is refused", d.Do("enter v3 s9"), "error 8\n")
	is(t, "one more", len(d.Entries()), api.MaxEntries)
}

// P8.5, Z2: a desk keeps nothing of others, and hands out nothing of its own.
func TestDeskKeeps(t *testing.T) {
	h := house()
	d := newDesk(t, h, "d1")
	l := []api.Entry{entry(0, "d2", 1, "enter v1 s1"), entry(1, "d2", 2, "start h1 ann 900 v1 s1 0 8"), entry(2, "d2", 3, "close h1 s2 0 0")}
	d.Take(l)
	questions := []string{"refused", "ledger", "bill h1", "balance h1", "quote mini 0 900 s1 s2", "quote midi 0 900 s2 s1", "ready s1 mini", "state v3", "enter v3 s1"}
	answers := func(d *desk.Desk) string {
		var all string
		for _, q := range questions[:len(questions)-1] {
			all += d.Do(q)
		}
		return all
	}
	before := answers(d)
	l[0].Words, d.Entries()[1].Words = "x", "x"
	h.Fleet.Stations[0].Key, h.Fleet.Classes[1].Up, h.Fleet.Vehicles[2].Key, h.Fleet.Plates[0].Plate = "z", "", "z", "z"
	h.Tariff.Rates[1].Day, h.Tariff.Extras[0].Key, h.Tariff.Fees[0].Cents, h.Tariff.Codes[0].Key = 7, "Z", 7, "Z"
	h.Tariff.Taxes[0].On[0] = api.LineOther
	h.Tariff.Taxes[1].Permille = 7
	is(t, "answers", answers(d), before)
	is(t, "Take", d.Take([]api.Entry{entry(3, "d2", 4, "enter v3 s1")}), api.OK)
	d.Do("at 10")
	is(t, "state", d.Do("state v3"), "1 s1 3\n")
	is(t, "answers", d.Do("bill h1"), strings.Split(before, "ok\n")[2]+"ok\n")
}

// P8.5: a desk writes entries with its own time, name and numbers.
func TestWrite(t *testing.T) {
	d := newDesk(t, house(), "d2")
	is(t, "one", d.Do("enter v1 s1"), "ok\n")
	is(t, "refused", d.Do("enter v1 s1"), "error 6\n")
	is(t, "at", d.Do("at 10"), "ok\n")
	is(t, "two", d.Do("shop v1 s1"), "ok\n")
	l := []api.Entry{entry(0, "d2", 1, "enter v1 s1"), entry(10, "d2", 2, "shop v1 s1")}
	same(t, "entries", d.Entries(), l)
	// Entries of others, and of this desk, that others brought, also such of later moments.
	is(t, "Take", d.Take([]api.Entry{entry(5, "d9", 900, "x"), entry(30, "d2", 77, "done v1 s1"), entry(40, "d2", 8, "gone v1 s1")}), api.OK)
	is(t, "three", d.Do("book h1 mini 10 20 5"), "ok\n")
	is(t, "four", d.Do("enter v2 s1"), "ok\n")
	same(t, "entries", d.Entries(), []api.Entry{
		l[0], entry(5, "d9", 900, "x"), l[1], entry(10, "d2", 78, "book h1 mini 10 20 5"), entry(10, "d2", 79, "enter v2 s1"),
		entry(30, "d2", 77, "done v1 s1"), entry(40, "d2", 8, "gone v1 s1"),
	})
	is(t, "refused", d.Do("refused"), "1 9\nok\n")
	is(t, "the greatest number", d.Take([]api.Entry{entry(50, "d2", 999_999, "x")}), api.OK)
	is(t, "the greatest number", d.Do("enter v3 s1"), "ok\n")
	is(t, "a greater one", d.Do("cancel h1"), "error 1\n")
	is(t, "a greater one that is refused", d.Do("cancel h2"), "error 8\n")
	is(t, "bookings", len(d.Entries()), 9)
}

// P8.5: an entry counts where it comes among all others: it may be that others are refused then, but not that it is.
func TestWriteBefore(t *testing.T) {
	d := newDesk(t, house(), "d2")
	later := []api.Entry{entry(10, "d1", 1, "enter v1 s1"), entry(20, "d1", 2, "shop v1 s1"), entry(30, "d3", 1, "done v1 s1"), entry(30, "d3", 2, "enter v2 s1")}
	is(t, "Take", d.Take(later), api.OK)
	is(t, "too early", d.Do("leave v1 s1 s2"), "error 11\n")
	is(t, "at", d.Do("at 15"), "ok\n")
	is(t, "leave", d.Do("leave v1 s1 s2"), "ok\n")
	// The entries behind it are 3, 4 and 5 now.
	is(t, "refused", d.Do("refused"), "2 11\n3 11\nok\n")
	is(t, "state", d.Do("state v1"), "4 s2 15\n")
	is(t, "at", d.Do("at 30")+d.Do("state v1"), "ok\n4 s2 15\n")
	// At one moment desks come in order.
	is(t, "before d3", d.Do("enter v2 s2"), "ok\n")
	is(t, "refused", d.Do("refused"), "2 11\n4 11\n5 6\nok\n")
	is(t, "state", d.Do("state v2"), "1 s2 30\n")
	is(t, "behind d1", d.Take([]api.Entry{entry(30, "d1", 3, "come v1 s2")}), api.OK)
	is(t, "behind d1", d.Do("shop v1 s2"), "error 6\n")
	k := knowing(t, house(), d.Entries())
	is(t, "log", len(k.log), 4)
}

// P8.5: all lines that are no entries.
func TestDo(t *testing.T) {
	d := newDesk(t, house(), "d1")
	is(t, "Take", d.Take(someSaid()), api.OK)
	for _, c := range []struct{ line, want string }{
		{"state v1", "1 s1 0\n"},
		{"state v3", "0 - 0\n"},
		{"at 19", "ok\n"},
		{"state v3", "1 s2 5\n"},
		{"ready s1 mini", "v1\nv2\nok\n"},
		{"ready s1 midi", "ok\n"},
		{"ready s2 mini", "v3\nok\n"},
		{"ready s3 mini", "ok\n"},
		{"at 20", "ok\n"},
		{"at 20", "ok\n"},
		{"state v1", "2 - 20\n"},
		{"ready s1 mini", "v2\nok\n"},
		{"at 19", "error 7\n"},
		{"at 0", "error 7\n"},
		{"at -1", "error 1\n"},
		{"at 5761440", "error 1\n"},
		{"at 999999999", "error 1\n"},
		{"at 5761439", "ok\n"},
		{"at 20", "error 7\n"},
		{"state v1", "5 - 300\n"},
		{"state v2", "1 s2 1540\n"},
		{"state v4", "error 8\n"},
		{"ready s1 maxi", "error 8\n"},
		{"ready s4 mini", "error 8\n"},
		{"quote mini 0 1500 s1 s2", "1 day 5000\n1 hours 1000\n4 oneway 700\n5 vat 1200\n5 city 70\nok\n"},
		{"quote midi 0 1440 s1 s1", "1 day 9000\n5 vat 1800\n5 city 0\nok\n"},
		{"quote midi 0 1440 s1 s3", "error 8\n"},
		{"quote midi 5 5 s1 s3", "error 1\n"},
		{"quote mini 0 172801 s1 s1", "error 2\n"},
		{"quote M 0 1440 s1 s1", "error 5\n"},
		{"quote midi 0 1440 s1 S", "error 5\n"},
		{"bill h1", "1 day 5000\n1 hours 1000\n4 oneway 700\n5 vat 1200\n5 city 70\n6 late 600\n6 fuel 1500\nok\n"},
		{"bill h4", "error 11\n"},
		{"bill h3", "error 8\n"},
		{"balance h1", "-3929\n"},
		{"balance h4", "error 11\n"},
		{"balance h9", "error 8\n"},
		{"ledger", "cash 14099\ndue -4029\nfee -700\nother -2100\nrent -6000\ntax -1270\nok\n"},
		{"refused", "ok\n"},
		{"pay h1 1", "ok\n"},
		{"balance h1", "-3930\n"},
		{"pay h1 -1", "error 1\n"},
		{"pay h8 -1", "error 8\n"},
		{"gone v2 s2", "ok\n"},
		{"close h4 s2 0 0", "ok\n"},
		{"bill h4", "1 day 9000\n5 vat 1800\n5 city 0\n6 late 19995000\nok\n"},
		{"balance h4", "20005700\n"},
	} {
		is(t, c.line, d.Do(c.line), c.want)
	}
	is(t, "entries", len(d.Entries()), len(someSaid())+3)
}

// P8.5: lines without a form.
func TestDoForms(t *testing.T) {
	d := newDesk(t, house(), "d1")
	lines := []string{"at 0", "state v1", "ready s1 mini", "quote mini 0 9 s1 s1", "bill h1", "balance h1", "ledger", "refused", "enter v1 s9"}
	for _, line := range lines {
		is(t, line, d.Do(line) == "error 9\n", false)
		words := strings.Split(line, " ")
		wrong := []string{line + " ", " " + line, line + " x", line + " 5", "x" + line, strings.ToUpper(line[:1]) + line[1:], strings.Replace(line, " ", "  ", 1) + " "}
		if len(words) > 1 {
			wrong = append(wrong, words[0], strings.Join(words[:len(words)-1], " "), strings.Replace(line, " ", "  ", 1), strings.ReplaceAll(line, " ", "\t"))
		}
		for _, w := range wrong {
			is(t, w, d.Do(w), "error 9\n")
		}
	}
	for _, line := range []string{
		"", " ", "\n", "ok", "dance", "at x", "at 01", "at -0", "at +1", "at 1000000000", "at 5\r", "at 5\n", "refused\n",
		"quote mini x 9 s1 s1", "quote mini 0 x s1 s1", "out v1 s1", "back v1 s1", "book h1 mini 5 x 5", strings.Repeat("x ", 90_000),
	} {
		is(t, line, d.Do(line), "error 9\n")
	}
	same(t, "entries", d.Entries(), nil)
	is(t, "a long word", d.Do("enter v1 "+strings.Repeat("s", 100_000)), "error 8\n")
	is(t, "another long word", d.Do("book "+strings.Repeat("s", 100_000)+" mini 5 9 5"), "error 5\n")
	is(t, "a word of other bytes", d.Do("enter v1 s\xff"), "error 8\n")
}

// P8.5
func TestSession(t *testing.T) {
	bad := house()
	bad.Deal.Hour = api.MaxRate + 1
	for _, c := range []struct {
		what         string
		h            api.House
		name, script string
		want         string
	}{
		{"nothing", house(), "d1", "", ""},
		{"empty lines", house(), "d1", "\n\n\n", ""},
		{"the document's example", house(), "d1", "at 10\nenter v1 s1\nstate v1\nenter v1 s1\n", "ok\nok\n1 s1 10\nerror 6\n"},
		{"without the last line feed", house(), "d1", "\nat 10\n\n\nstate v1", "ok\n0 - 0\n"},
		{"blanks", house(), "d1", " \nat 10 \n", "error 9\nerror 9\n"},
		{"a house", bad, "d1", "at 10\nat 20\n", "error 1\n"},
		{"a house, without a script", bad, "d1", "", "error 1\n"},
		{"a house, and a name", bad, "", "at 10\n", "error 1\n"},
		{"a name", house(), "D", "at 10\n", "error 5\n"},
		{"MaxText bytes", house(), "d1", strings.Repeat("\n", api.MaxText-1) + "x", "error 9\n"},
		{"more", house(), "d1", strings.Repeat("\n", api.MaxText+1), "error 2\n"},
		{"more, a house, and a name", bad, "D", strings.Repeat("\n", api.MaxText+1), "error 2\n"},
		{"a hire", house(), "d1", "enter v1 s1\nat 1\nstart h1 ann 900 v1 s1 0 8\nat 900\nclose h1 s1 0 8\nbill h1\nledger\nrefused", "ok\nok\nok\nok\nok\n1 day 5000\n5 vat 1000\n5 city 0\nok\ndue 6000\nrent -5000\ntax -1000\nok\nok\n"},
	} {
		is(t, c.what, desk.Session(c.h, c.name, c.script), c.want)
	}
}

// P8.5: a desk that is asked line by line, and takes what others bring, knows what the functions know of its entries. What it adds is not refused.
func TestDesksAtRandom(t *testing.T) {
	r := rand.New(rand.NewSource(85))
	early := 0
	for range 60 {
		d := newDesk(t, house(), "d2")
		others := someEntries(r, 60)
		at := 0
		for range 60 {
			at += pick(r, 0, 0, 1, 30, 700)
			is(t, "at", d.Do("at "+strconv.Itoa(at)), "ok\n")
			if r.Intn(10) == 0 {
				d.Take(pick(r, others[:r.Intn(len(others))], others[r.Intn(len(others)):]))
			}
			before := d.Entries()
			answer := d.Do(someWords(r, at))
			l := d.Entries()
			if answer != "ok\n" {
				same(t, "entries behind "+answer, l, before)
				continue
			}
			is(t, "one more", len(l), len(before)+1)
			place, no := 0, 0
			for i, x := range l {
				if i < len(before) && before[i].Desk == "d2" {
					no = max(no, before[i].No)
				}
				if place == i && i < len(before) && x == before[i] {
					place++
				}
			}
			is(t, "what is added", l[place], entry(at, "d2", no+1, l[place].Words))
			is(t, "Check", desk.Check(l), api.OK)
			refused, _ := desk.Refused(house(), l)
			for _, x := range refused {
				is(t, "refused itself", x.Entry == place, false)
			}
			if place < len(before) {
				early++
			}
		}
		sameAnswers(t, r, d, house(), knowing(t, house(), d.Entries()))
	}
	if early < 60 {
		t.Errorf("only %d entries come before others", early)
	}
}

// P8.5: a quote is that of chapter 2.
func TestQuotesAtRandom(t *testing.T) {
	r := rand.New(rand.NewSource(86))
	d := newDesk(t, house(), "d1")
	for range 500 {
		a := api.Ask{Class: pick(r, "mini", "midi", "maxi", "M"), Time: api.Window{From: r.Intn(5000) - 9, To: r.Intn(20_000)}, A: pick(r, "s1", "s2", "S"), B: pick(r, "s1", "s2", "s3")}
		lines, e := tariff.Quote(house().Tariff, a)
		want := ""
		for _, l := range lines {
			want += fmt.Sprintln(l.Kind, l.Key, l.Cents)
		}
		want += "ok\n"
		if e != api.OK {
			want = fmt.Sprintln("error", int(e))
		}
		is(t, "quote", d.Do(fmt.Sprint("quote ", a.Class, " ", a.Time.From, " ", a.Time.To, " ", a.A, " ", a.B)), want)
	}
}
