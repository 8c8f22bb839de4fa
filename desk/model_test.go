package desk_test

import (
	"cmp"
	"math/rand"
	"slices"
	"strconv"
	"strings"
	"testing"

	"forecourt/api"
	"forecourt/book"
	"forecourt/desk"
	"forecourt/hire"
	"forecourt/lot"
)

// model follows entries as P8.2 is written: with lists, and by asking the chapters anew each time.
type model struct {
	h        api.House
	refused  []api.Refusal
	log      []api.Event
	bookings []api.Booking
	hires    []api.Hire
	paid     map[string]int
}

func newModel(h api.House) *model { return &model{h: h, paid: map[string]int{}} }

func (m *model) follow(l []api.Entry) {
	for i, x := range l {
		if e := m.try(x); e != api.OK {
			m.refused = append(m.refused, api.Refusal{Entry: i, Why: e})
		}
	}
	byKey := func(a, b string) int { return strings.Compare(a, b) }
	slices.SortFunc(m.bookings, func(a, b api.Booking) int { return byKey(a.Key, b.Key) })
	slices.SortFunc(m.hires, func(a, b api.Hire) int { return byKey(a.Key, b.Key) })
}

// first is the first error of some.
func first(errors ...api.Errno) api.Errno { return cmp.Or(errors...) }

func when(wrong bool, e api.Errno) api.Errno {
	if wrong {
		return e
	}
	return api.OK
}

// numbers reads words as numbers, and says whether all of them are such.
func numbers(words ...string) ([]int, bool) {
	var l []int
	for _, w := range words {
		n, err := strconv.Atoi(w)
		if err != nil || strconv.Itoa(n) != w || len(strings.TrimPrefix(w, "-")) > 9 {
			return nil, false
		}
		l = append(l, n)
	}
	return l, true
}

func (m *model) try(x api.Entry) api.Errno {
	w := strings.Split(x.Words, " ")
	if slices.Contains(w, "") {
		return api.ErrSyntax
	}
	kinds := map[string]int{"enter": 1, "shop": 4, "done": 5, "leave": 6, "come": 7, "gone": 8}
	if kind, ok := kinds[w[0]]; ok && (kind == 6 && len(w) == 4 || kind != 6 && len(w) == 3) {
		v := api.Event{At: x.At, Vehicle: w[1], Station: w[2], Kind: kind, To: strings.Join(w[3:], "")}
		return m.tell(lot.Check(m.h.Fleet, []api.Event{v}), v)
	}
	switch {
	case w[0] == "book" && len(w) == 6:
		if n, ok := numbers(w[3:]...); ok {
			return m.book(api.Booking{Key: w[1], Class: w[2], Time: api.Window{From: n[0], To: n[1]}, Made: x.At, Percent: n[2]})
		}
	case w[0] == "cancel" && len(w) == 2:
		return m.unbook(w[1])
	case w[0] == "start" && len(w) == 8:
		if n, ok := numbers(w[3], w[6], w[7]); ok {
			return m.start(w[1], w[2], api.Window{From: x.At, To: n[0]}, w[4], api.Reading{At: x.At, Station: w[5], Meter: n[1], Fuel: n[2]})
		}
	case w[0] == "swap" && len(w) == 8:
		if n, ok := numbers(w[3], w[4], w[6], w[7]); ok {
			return m.swap(w[1], api.Reading{At: x.At, Station: w[2], Meter: n[0], Fuel: n[1]}, w[5], api.Reading{At: x.At, Station: w[2], Meter: n[2], Fuel: n[3]})
		}
	case w[0] == "extend" && len(w) == 3:
		if n, ok := numbers(w[2]); ok {
			return m.extend(w[1], n[0])
		}
	case w[0] == "close" && len(w) == 5:
		if n, ok := numbers(w[3:]...); ok {
			return m.end(w[1], api.Reading{At: x.At, Station: w[2], Meter: n[0], Fuel: n[1]})
		}
	case w[0] == "pay" && len(w) == 3:
		if n, ok := numbers(w[2]); ok {
			return m.pay(w[1], n[0])
		}
	}
	return api.ErrSyntax
}

// tell adds events, if there is no error before them.
func (m *model) tell(e api.Errno, events ...api.Event) api.Errno {
	log := m.log
	for _, v := range events {
		if e != api.OK {
			return e
		}
		if slices.ContainsFunc(log, func(o api.Event) bool { return o.At == v.At && o.Vehicle == v.Vehicle }) {
			return api.ErrTwice
		}
		with, e := lot.Merge(m.h.Fleet, log, []api.Event{v})
		if e != api.OK {
			panic(e)
		}
		if broken, _ := lot.Broken(m.h.Fleet, with); len(broken) > 0 {
			return api.ErrState
		}
		log = with
	}
	m.log = log
	return api.OK
}

func (m *model) hasVehicle(key string) bool {
	return slices.ContainsFunc(m.h.Fleet.Vehicles, func(v api.Vehicle) bool { return v.Key == key })
}

func (m *model) hasStation(key string) bool {
	return slices.ContainsFunc(m.h.Fleet.Stations, func(s api.Station) bool { return s.Key == key })
}

func (m *model) booked(key string) int {
	return slices.IndexFunc(m.bookings, func(b api.Booking) bool { return b.Key == key })
}

func (m *model) hired(key string) int {
	return slices.IndexFunc(m.hires, func(h api.Hire) bool { return h.Key == key })
}

func (m *model) book(b api.Booking) api.Errno {
	_, formed := book.Text([]api.Booking{b})
	noClass := !slices.ContainsFunc(m.h.Fleet.Classes, func(c api.Class) bool { return c.Key == b.Class })
	e := first(formed, when(noClass, api.ErrNone), when(m.booked(b.Key) >= 0 || m.hired(b.Key) >= 0, api.ErrTwice), when(len(m.bookings) >= api.MaxBookings, api.ErrFull))
	if e == api.OK {
		m.bookings = append(m.bookings, b)
	}
	return e
}

func (m *model) unbook(key string) api.Errno {
	i := m.booked(key)
	if i < 0 {
		return api.ErrNone
	}
	m.bookings = slices.Delete(m.bookings, i, i+1)
	return api.OK
}

func (m *model) start(key, driver string, w api.Window, vehicle string, out api.Reading) api.Errno {
	h, e := hire.Start(key, driver, w, vehicle, out)
	e = first(e, when(m.hired(key) >= 0, api.ErrTwice), when(!m.hasVehicle(vehicle) || !m.hasStation(out.Station), api.ErrNone))
	if e := m.tell(e, api.Event{At: out.At, Vehicle: vehicle, Station: out.Station, Kind: api.EventOut}); e != api.OK {
		return e
	}
	m.unbook(key)
	m.hires = append(m.hires, h)
	return api.OK
}

func (m *model) swap(key string, in api.Reading, vehicle string, out api.Reading) api.Errno {
	i := m.hired(key)
	if i < 0 {
		return api.ErrNone
	}
	old := m.hires[i].Legs[len(m.hires[i].Legs)-1].Vehicle
	h, e := hire.Exchange(m.hires[i], in, vehicle, out)
	e = first(e, when(!m.hasStation(in.Station) || !m.hasVehicle(vehicle), api.ErrNone))
	e = m.tell(e, api.Event{At: in.At, Vehicle: old, Station: in.Station, Kind: api.EventBack}, api.Event{At: in.At, Vehicle: vehicle, Station: in.Station, Kind: api.EventOut})
	if e == api.OK {
		m.hires[i] = h
	}
	return e
}

func (m *model) extend(key string, to int) api.Errno {
	i := m.hired(key)
	if i < 0 {
		return api.ErrNone
	}
	h, e := hire.Extend(m.hires[i], to)
	if e == api.OK {
		m.hires[i] = h
	}
	return e
}

func (m *model) end(key string, in api.Reading) api.Errno {
	i := m.hired(key)
	if i < 0 {
		return api.ErrNone
	}
	old := m.hires[i].Legs[len(m.hires[i].Legs)-1].Vehicle
	h, e := hire.Close(m.hires[i], in)
	e = first(e, when(!m.hasStation(in.Station), api.ErrNone))
	e = m.tell(e, api.Event{At: in.At, Vehicle: old, Station: in.Station, Kind: api.EventBack})
	if e == api.OK {
		m.hires[i] = h
	}
	return e
}

func (m *model) pay(key string, cents int) api.Errno {
	e := first(when(m.hired(key) < 0, api.ErrNone), when(cents < 0 || cents > api.MaxCents, api.ErrArg), when(m.paid[key]+cents > api.MaxCents, api.ErrLarge))
	if e == api.OK {
		m.paid[key] += cents
	}
	return e
}

// deskEntries are what three desks write down, each of which refuses what does not fit to what it knows: together some of it is refused.
func deskEntries(t *testing.T, r *rand.Rand, count int) []api.Entry {
	t.Helper()
	l := sorted(slices.Concat(lists(someDesks(t, r, count))...))
	return slices.Compact(l)
}

func lists(desks []*desk.Desk) [][]api.Entry {
	return many(len(desks), func(i int) []api.Entry { return desks[i].Entries() })
}

func someDesks(t *testing.T, r *rand.Rand, count int) []*desk.Desk {
	t.Helper()
	desks := many(3, func(i int) *desk.Desk { return newDesk(t, house(), "d"+strconv.Itoa(i+1)) })
	times := make([]int, len(desks))
	at := 0
	for range count {
		i := r.Intn(len(desks))
		d := desks[i]
		at += pick(r, 0, 1, 1, 30, 700)
		// Some desks are told late what time it is.
		if r.Intn(5) > 0 {
			is(t, "at", d.Do("at "+strconv.Itoa(at)), "ok\n")
			times[i] = at
		}
		if r.Intn(4) == 0 {
			is(t, "Take", d.Take(pick(r, desks...).Entries()), api.OK)
		}
		// Of several words many are refused.
		for range 20 {
			if d.Do(someWords(r, times[i])) == "ok\n" {
				break
			}
		}
	}
	return desks
}

// P8.2: what is followed is what the model follows.
func TestFollowAtRandom(t *testing.T) {
	r := rand.New(rand.NewSource(83))
	count := map[api.Errno]int{}
	for round := range 600 {
		l := someEntries(r, r.Intn(100))
		if round%2 == 0 {
			l = deskEntries(t, r, 60)
		}
		h := house()
		m := newModel(h)
		m.follow(l)
		k := knowing(t, h, l)
		sameKnown(t, "followed", k, known{m.refused, m.log, m.bookings, m.hires, k.ledger})
		refused := map[int]bool{}
		for _, x := range k.refused {
			refused[x.Entry] = true
			count[x.Why]++
		}
		count[api.OK] += len(l) - len(refused)
	}
	for _, e := range []api.Errno{api.OK, api.ErrArg, api.ErrLarge, api.ErrName, api.ErrTwice, api.ErrOrder, api.ErrNone, api.ErrState, api.ErrLoop, api.ErrRule} {
		if count[e] < 10 {
			t.Errorf("only %d entries have error %d", count[e], e)
		}
	}
}

// P8.2: what follows.
func TestWhatFollows(t *testing.T) {
	r := rand.New(rand.NewSource(84))
	count := 0
	for range 200 {
		h := house()
		desks := someDesks(t, r, 60)
		merged := func() []api.Entry {
			var all []api.Entry
			for _, i := range r.Perm(len(desks)) {
				l, e := desk.Merge(all, desks[i].Entries())
				is(t, "Merge", e, api.OK)
				all = l
			}
			return all
		}
		l := merged()
		k := knowing(t, h, l)
		count += len(k.refused)
		same(t, "in another order", merged(), l)
		broken, e := lot.Broken(h.Fleet, k.log)
		same(t, "broken", broken, nil)
		is(t, "broken", e, api.OK)
		is(t, "bookings", book.Check(h.Fleet.Classes, k.bookings), api.OK)
		clashes, e := hire.Clashes(k.hires)
		is(t, "clashes", e, api.OK)
		is(t, "one vehicle in two hires", slices.ContainsFunc(clashes, func(c api.Clash) bool { return c.Kind == api.ClashVehicle }), false)
		// What hires say to the log is what the log has of hires.
		var said []api.Event
		for _, x := range k.hires {
			events, _ := hire.Events(x)
			said = append(said, events...)
		}
		slices.SortFunc(said, func(a, b api.Event) int {
			return cmp.Or(cmp.Compare(a.At, b.At), strings.Compare(a.Vehicle, b.Vehicle))
		})
		of := slices.DeleteFunc(slices.Clone(k.log), func(v api.Event) bool { return v.Kind != api.EventOut && v.Kind != api.EventBack })
		same(t, "events of hires", said, of)
		// Each desk that has all entries knows the same.
		for _, d := range desks {
			for _, i := range r.Perm(len(desks)) {
				is(t, "Take", d.Take(desks[i].Entries()), api.OK)
			}
			same(t, "entries", d.Entries(), l)
			sameAnswers(t, r, d, h, k)
		}
	}
	if count < 200 {
		t.Errorf("only %d entries are refused", count)
	}
}
