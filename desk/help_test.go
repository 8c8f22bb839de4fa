package desk_test

import (
	"fmt"
	"math/rand"
	"slices"
	"strconv"
	"strings"
	"testing"

	"forecourt/api"
	"forecourt/desk"
)

// is reports values that differ; lists go to same, for which an empty list is a nil one.
func is[T comparable](t *testing.T, what string, got, want T) {
	t.Helper()
	if got != want {
		t.Errorf("%s: got %v, want %v", what, got, want)
	}
}

func same[T comparable](t *testing.T, what string, got, want []T) {
	t.Helper()
	if !slices.Equal(got, want) {
		t.Errorf("%s: got %v, want %v", what, got, want)
	}
}

// sameHires compares hires, which have lists of legs.
func sameHires(t *testing.T, what string, got, want []api.Hire) {
	t.Helper()
	if fmt.Sprint(got) != fmt.Sprint(want) {
		t.Errorf("%s: got %v, want %v", what, got, want)
	}
}

// many makes a list of so many elements from their numbers.
func many[T any](count int, element func(i int) T) []T {
	var l []T
	for i := range count {
		l = append(l, element(i))
	}
	return l
}

// key makes keys that are in the order of their numbers.
func key(i int) string { return fmt.Sprintf("k%05d", i) }

// The longest key, and one that is too long.
var (
	longKey   = strings.Repeat("k", api.MaxName)
	longerKey = strings.Repeat("k", api.MaxName+1)
)

const least, greatest = -1 << 63, 1<<63 - 1

// house has v1 and v2 of class mini, for which v3 of class midi may be given. There is no fee for the way to s3, and from day 3 on no rate for a midi.
func house() api.House {
	return api.House{
		Fleet: api.Fleet{
			Stations: []api.Station{{Key: "s1"}, {Key: "s2"}, {Key: "s3"}},
			Classes:  []api.Class{{Key: "midi"}, {Key: "mini", Up: "midi"}},
			Vehicles: []api.Vehicle{{Key: "v1", Class: "mini"}, {Key: "v2", Class: "mini"}, {Key: "v3", Class: "midi"}},
			Plates:   []api.Plate{{Vehicle: "v1", Plate: "AB1"}},
		},
		Tariff: api.Tariff{
			Rates: []api.Rate{
				{Class: "midi", From: 0, To: 3, Hour: -1, Day: 9000, Weekend: -1, Week: -1},
				{Class: "mini", From: 0, To: 4001, Hour: 1000, Day: 5000, Weekend: -1, Week: 20_000},
			},
			Extras: []api.Extra{{Key: "seat", Once: 500}},
			Fees:   []api.Fee{{A: "s1", B: "s2", Cents: 700}, {A: "s2", B: "s1", Cents: 300}},
			Codes:  []api.Code{{Key: "ten", From: 0, To: 4001, Days: 1, Permille: 100}},
			Taxes:  []api.Tax{{Key: "vat", Permille: 200, On: []int{api.LinePiece}}, {Key: "city", Permille: 100, On: []int{api.LineFee}}},
		},
		Deal: api.Deal{Free: 100, Km: 2, Eighth: 300, Grace: 30, Hour: 600, Day: 5000, Deposit: 10_000},
	}
}

func entry(at int, desk string, no int, words string) api.Entry {
	return api.Entry{At: at, Desk: desk, No: no, Words: words}
}

// said makes entries of the desk d1 from lines: each has a moment, and words.
func said(lines ...string) []api.Entry {
	return many(len(lines), func(i int) api.Entry {
		moment, words, _ := strings.Cut(lines[i], " ")
		at, err := strconv.Atoi(moment)
		if err != nil {
			panic(err)
		}
		return entry(at, "d1", i+1, words)
	})
}

// someSaid are entries of all kinds; none is refused.
func someSaid() []api.Entry {
	return said(
		"0 enter v1 s1", "0 enter v2 s1", "5 enter v3 s2",
		"10 book h1 mini 20 1460 100", "10 book h2 midi 30 90 50", "11 book h3 mini 40 90 0",
		"15 cancel h2",
		"20 start h1 ann 1460 v1 s1 999990 8", "30 pay h1 4000",
		"60 swap h1 s1 5 7 v2 100 8", "70 extend h1 1500",
		"80 shop v1 s1", "90 done v1 s1", "100 leave v1 s1 s3", "200 come v1 s3", "300 gone v1 s3",
		"1540 close h1 s2 250 4", "1550 pay h1 9999",
		"1600 start h4 bob 3000 v3 s2 0 0", "1600 pay h4 100",
	)
}

// inOrder says that a function has the error of the first one of these faults, whichever others there are behind it.
func inOrder[T any](t *testing.T, what string, whole func() T, function func(x T) api.Errno, faults []fault[T]) {
	t.Helper()
	is(t, what, function(whole()), api.OK)
	for i, first := range faults {
		for _, second := range faults[i:] {
			x := whole()
			second.change(&x)
			first.change(&x)
			is(t, what+": "+first.what+", "+second.what, function(x), first.want)
		}
	}
}

// A fault is a change that makes a right value wrong.
type fault[T any] struct {
	what   string
	change func(x *T)
	want   api.Errno
}

// known is all that an office knows.
type known struct {
	refused  []api.Refusal
	log      []api.Event
	bookings []api.Booking
	hires    []api.Hire
	ledger   []api.Posting
}

// knowing asks for all that is known behind entries that are right.
func knowing(t *testing.T, h api.House, l []api.Entry) known {
	t.Helper()
	var k known
	var e [5]api.Errno
	k.refused, e[0] = desk.Refused(h, l)
	k.log, e[1] = desk.Log(h, l)
	k.bookings, e[2] = desk.Bookings(h, l)
	k.hires, e[3] = desk.Hires(h, l)
	k.ledger, e[4] = desk.Ledger(h, l)
	if e != [5]api.Errno{} {
		t.Fatalf("what comes of entries has errors %v: %v", e, l)
	}
	return k
}

func sameKnown(t *testing.T, what string, got, want known) {
	t.Helper()
	same(t, what+", refused", got.refused, want.refused)
	same(t, what+", log", got.log, want.log)
	same(t, what+", bookings", got.bookings, want.bookings)
	sameHires(t, what+", hires", got.hires, want.hires)
	same(t, what+", ledger", got.ledger, want.ledger)
}

// newDesk is for tests that need one.
func newDesk(t *testing.T, h api.House, name string) *desk.Desk {
	t.Helper()
	d, e := desk.New(h, name)
	if e != api.OK || d == nil {
		t.Fatalf("there is no desk: error %d", e)
	}
	return d
}

func pick[T any](r *rand.Rand, l ...T) T { return l[r.Intn(len(l))] }

// someWords makes words of an entry that is said about a moment. Few of them are wrong in themselves.
func someWords(r *rand.Rand, at int) string {
	vehicle, station, hire := pick(r, "v1", "v2", "v3"), pick(r, "s1", "s1", "s2"), pick(r, "h1", "h2", "h3", "h4", "h5")
	class := pick(r, "mini", "midi")
	if r.Intn(30) == 0 {
		vehicle, station, hire, class = pick(r, vehicle, "v9", "V"), pick(r, station, "s9", "s3"), pick(r, hire, "h9", "H"), pick(r, class, "maxi", "-")
	}
	meter, fuel := pick(r, 0, 5, 400, 999_999), r.Intn(9)
	to := at + pick(r, 1, 60, 1440, 9*1440)
	if r.Intn(30) == 0 {
		meter, fuel, to = pick(r, meter, -1, 1_000_000), pick(r, fuel, 9), pick(r, at, at-1, at+121*1440)
	}
	switch r.Intn(16) {
	case 0, 1:
		return fmt.Sprint("enter ", vehicle, " ", station)
	case 2:
		return fmt.Sprint(pick(r, "shop ", "done ", "come ", "gone "), vehicle, " ", station)
	case 3:
		return fmt.Sprint(pick(r, "done ", "come "), vehicle, " ", station)
	case 4:
		return fmt.Sprint("leave ", vehicle, " ", station, " ", pick(r, "s1", "s2", "s3"))
	case 5, 6:
		return fmt.Sprint("book ", hire, " ", class, " ", at+r.Intn(9)-1, " ", to, " ", r.Intn(101))
	case 7:
		return fmt.Sprint("cancel ", hire)
	case 8, 9, 10:
		return fmt.Sprint("start ", hire, " ann ", to, " ", vehicle, " ", station, " ", meter, " ", fuel)
	case 11:
		return fmt.Sprint("swap ", hire, " ", station, " ", meter, " ", fuel, " ", vehicle, " ", r.Intn(400), " ", r.Intn(9))
	case 12:
		return fmt.Sprint("extend ", hire, " ", to)
	case 13, 14:
		return fmt.Sprint("close ", hire, " ", station, " ", meter, " ", fuel)
	}
	return fmt.Sprint("pay ", hire, " ", pick(r, 0, 700, 5000, 999_999_999, -1))
}

// someEntries are entries of some desks at some moments, in order. Each has a number of its own.
func someEntries(r *rand.Rand, count int) []api.Entry {
	at := 0
	last := map[string]int{}
	l := many(count, func(int) api.Entry {
		at += pick(r, 0, 0, 1, 1, 30, 700)
		d := pick(r, "d1", "d2", "d3")
		last[d] += 1 + r.Intn(2)
		return entry(at, d, last[d], someWords(r, at))
	})
	return sorted(l)
}

func sorted(l []api.Entry) []api.Entry {
	slices.SortFunc(l, func(a, b api.Entry) int {
		if a.At != b.At {
			return a.At - b.At
		}
		if a.Desk != b.Desk {
			return strings.Compare(a.Desk, b.Desk)
		}
		return a.No - b.No
	})
	return l
}
