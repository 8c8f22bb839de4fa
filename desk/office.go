package desk

import (
	"maps"
	"slices"

	"forecourt/api"
	"forecourt/basic"
	"forecourt/book"
	"forecourt/lot"
)

// office is what is known behind entries that were followed.
type office struct {
	house    api.House
	classes  map[string]string // of the vehicles
	entries  []api.Entry
	refused  []api.Refusal
	log      []api.Event // in order; none is broken
	states   map[string]api.State
	bookings map[string]api.Booking
	hires    map[string]contract
	accounts map[string]int
}

// officeOf is the office behind entries. It has errors of the house, then of the entries.
func officeOf(h api.House, l []api.Entry) (*office, api.Errno) {
	if e := CheckHouse(h); e != api.OK {
		return nil, e
	}
	if e := Check(l); e != api.OK {
		return nil, e
	}
	o := newOffice(h)
	o.follow(l)
	return o, api.OK
}

// newOffice is the office of a house that is right, behind no entries.
func newOffice(h api.House) *office {
	o := &office{
		house:    h,
		classes:  make(map[string]string, len(h.Fleet.Vehicles)),
		states:   map[string]api.State{},
		bookings: map[string]api.Booking{},
		hires:    map[string]contract{},
		accounts: map[string]int{},
	}
	for _, v := range h.Fleet.Vehicles {
		o.classes[v.Key] = v.Class
	}
	return o
}

// follow follows entries that come behind all others.
func (o *office) follow(l []api.Entry) {
	for _, x := range l {
		if say, e := o.weigh(x); e == api.OK {
			say()
		} else {
			o.refused = append(o.refused, api.Refusal{Entry: len(o.entries), Why: e})
		}
		o.entries = append(o.entries, x)
	}
}

// A weigher finds out what a statement does, and whether it is refused. It changes nothing itself.
type weigher func(o *office, s statement) (say func(), e api.Errno)

// entryForm has the form of entries with a verb, and their weigher; none, if there are no such entries.
func entryForm(verb string) (string, weigher) {
	switch verb {
	case "enter", "shop", "done", "come", "gone":
		return "ww", (*office).event
	case "leave":
		return "www", (*office).event
	case "book":
		return "wwnnn", (*office).book
	case "cancel":
		return "w", (*office).cancel
	case "start":
		return "wwnwwnn", (*office).start
	case "swap":
		return "wwnnwnn", (*office).swap
	case "extend":
		return "wn", (*office).extend
	case "close":
		return "wwnn", (*office).close
	case "pay":
		return "wn", (*office).pay
	}
	return "", nil
}

// weigh tells what the next entry does, or why it is refused.
func (o *office) weigh(x api.Entry) (func(), api.Errno) {
	verb, words := verbOf(x.Words)
	form, weigh := entryForm(verb)
	if weigh == nil {
		return nil, api.ErrSyntax
	}
	s, ok := statementOf(x.At, verb, words, form)
	if !ok {
		return nil, api.ErrSyntax
	}
	return weigh(o, s)
}

func (o *office) event(s statement) (func(), api.Errno) {
	v := api.Event{At: s.at, Vehicle: s.names[0], Station: s.names[1], Kind: basic.EventKind(s.verb)}
	if v.Kind == api.EventLeave {
		v.To = s.names[2]
	}
	if e := lot.Check(o.around(v.Vehicle), []api.Event{v}); e != api.OK {
		return nil, e
	}
	return o.happen(v)
}

// around is the part of the fleet that an event of a vehicle can name: chapter 1 checks all that it gets, each time.
func (o *office) around(vehicle string) api.Fleet {
	f := api.Fleet{Stations: o.house.Fleet.Stations}
	if class, known := o.classes[vehicle]; known {
		f.Classes = []api.Class{{Key: class}}
		f.Vehicles = []api.Vehicle{{Key: vehicle, Class: class}}
	}
	return f
}

func (o *office) hasVehicle(key string) bool {
	_, known := o.classes[key]
	return known
}

func (o *office) hasStation(key string) bool {
	return slices.ContainsFunc(o.house.Fleet.Stations, func(s api.Station) bool { return s.Key == key })
}

// happen weighs events of several vehicles, each of which can be in the log of chapter 1.
func (o *office) happen(events ...api.Event) (func(), api.Errno) {
	for _, v := range events {
		s := o.states[v.Vehicle]
		// No event of the log is broken: the last one of the vehicle led to its state.
		if s.State != api.StateNone && s.Since == v.At {
			return nil, api.ErrTwice
		}
		if _, ok := basic.Follow(s, v); !ok {
			return nil, api.ErrState
		}
	}
	return func() {
		for _, v := range events {
			place, _ := slices.BinarySearchFunc(o.log, v, basic.CompareEvents)
			o.log = slices.Insert(o.log, place, v)
			next, _ := basic.Follow(o.states[v.Vehicle], v)
			o.states[v.Vehicle] = next
		}
	}, api.OK
}

func (o *office) book(s statement) (func(), api.Errno) {
	b := api.Booking{
		Key: s.names[0], Class: s.names[1],
		Time: api.Window{From: s.numbers[0], To: s.numbers[1]},
		Made: s.at, Percent: s.numbers[2],
	}
	if e := book.Check(o.house.Fleet.Classes, []api.Booking{b}); e != api.OK {
		return nil, e
	}
	_, booked := o.bookings[b.Key]
	_, hired := o.hires[b.Key]
	switch {
	case booked || hired:
		return nil, api.ErrTwice
	case len(o.bookings) == api.MaxBookings:
		return nil, api.ErrFull
	}
	return func() { o.bookings[b.Key] = b }, api.OK
}

func (o *office) cancel(s statement) (func(), api.Errno) {
	key := s.names[0]
	if _, known := o.bookings[key]; !known {
		return nil, api.ErrNone
	}
	return func() { delete(o.bookings, key) }, api.OK
}

// Refused returns the entries that are refused.
func Refused(h api.House, l []api.Entry) ([]api.Refusal, api.Errno) {
	o, e := officeOf(h, l)
	if e != api.OK {
		return nil, e
	}
	return o.refused, api.OK
}

// Log returns the events that are said.
func Log(h api.House, l []api.Entry) ([]api.Event, api.Errno) {
	o, e := officeOf(h, l)
	if e != api.OK {
		return nil, e
	}
	return o.log, api.OK
}

// Bookings returns the bookings that there are.
func Bookings(h api.House, l []api.Entry) ([]api.Booking, api.Errno) {
	o, e := officeOf(h, l)
	if e != api.OK {
		return nil, e
	}
	return byKey(o.bookings), api.OK
}

// byKey has the values of a map in the order of their keys.
func byKey[T any](m map[string]T) []T {
	var l []T
	for _, key := range slices.Sorted(maps.Keys(m)) {
		l = append(l, m[key])
	}
	return l
}
