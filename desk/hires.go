package desk

import (
	"forecourt/api"
	"forecourt/basic"
	"forecourt/hire"
)

// contract is a hire, and what was paid for it; when it is not open any more, its lines too.
type contract struct {
	hire  api.Hire
	paid  int
	ended bool
	lines []api.Line
}

// vehicle is the last one of the hire.
func (c contract) vehicle() string { return c.hire.Legs[len(c.hire.Legs)-1].Vehicle }

func (o *office) start(s statement) (func(), api.Errno) {
	key, driver, vehicle, station := s.names[0], s.names[1], s.names[2], s.names[3]
	out := s.reading(station, s.numbers[1], s.numbers[2])
	h, e := hire.Start(key, driver, api.Window{From: s.at, To: s.numbers[0]}, vehicle, out)
	if e != api.OK {
		return nil, e
	}
	if _, known := o.hires[key]; known {
		return nil, api.ErrTwice
	}
	if !o.hasVehicle(vehicle) || !o.hasStation(station) {
		return nil, api.ErrNone
	}
	happened, e := o.happen(api.Event{At: s.at, Vehicle: vehicle, Station: station, Kind: api.EventOut})
	if e != api.OK {
		return nil, e
	}
	if len(o.hires) == api.MaxHires {
		return nil, api.ErrFull
	}
	return func() {
		happened()
		delete(o.bookings, key)
		o.hires[key] = contract{hire: h}
	}, api.OK
}

func (o *office) swap(s statement) (func(), api.Errno) {
	key, station, vehicle := s.names[0], s.names[1], s.names[2]
	c, known := o.hires[key]
	if !known {
		return nil, api.ErrNone
	}
	in, out := s.reading(station, s.numbers[0], s.numbers[1]), s.reading(station, s.numbers[2], s.numbers[3])
	h, e := hire.Exchange(c.hire, in, vehicle, out)
	if e != api.OK {
		return nil, e
	}
	if !o.hasStation(station) || !o.hasVehicle(vehicle) {
		return nil, api.ErrNone
	}
	happened, e := o.happen(
		api.Event{At: s.at, Vehicle: c.vehicle(), Station: station, Kind: api.EventBack},
		api.Event{At: s.at, Vehicle: vehicle, Station: station, Kind: api.EventOut},
	)
	if e != api.OK {
		return nil, e
	}
	return func() {
		happened()
		c.hire = h
		o.hires[key] = c
	}, api.OK
}

func (o *office) extend(s statement) (func(), api.Errno) {
	key := s.names[0]
	c, known := o.hires[key]
	if !known {
		return nil, api.ErrNone
	}
	h, e := hire.Extend(c.hire, s.numbers[0])
	if e != api.OK {
		return nil, e
	}
	return func() {
		c.hire = h
		o.hires[key] = c
	}, api.OK
}

func (o *office) close(s statement) (func(), api.Errno) {
	key, station := s.names[0], s.names[1]
	c, known := o.hires[key]
	if !known {
		return nil, api.ErrNone
	}
	h, e := hire.Close(c.hire, s.reading(station, s.numbers[0], s.numbers[1]))
	if e != api.OK {
		return nil, e
	}
	if !o.hasStation(station) {
		return nil, api.ErrNone
	}
	happened, e := o.happen(api.Event{At: s.at, Vehicle: c.vehicle(), Station: station, Kind: api.EventBack})
	if e != api.OK {
		return nil, e
	}
	return func() {
		happened()
		c.hire, c.ended, c.lines = h, true, o.linesOf(h)
		o.hires[key] = c
		o.postLines(c.lines)
	}, api.OK
}

func (o *office) pay(s statement) (func(), api.Errno) {
	key, cents := s.names[0], s.numbers[0]
	c, known := o.hires[key]
	switch {
	case !known:
		return nil, api.ErrNone
	case !basic.Within(cents, 0, api.MaxCents):
		return nil, api.ErrArg
	case c.paid+cents > api.MaxCents:
		return nil, api.ErrLarge
	}
	return func() {
		c.paid += cents
		o.hires[key] = c
		o.post(dueAccount, cashAccount, cents)
	}, api.OK
}

// Hires returns the hires that there are.
func Hires(h api.House, l []api.Entry) ([]api.Hire, api.Errno) {
	o, e := officeOf(h, l)
	if e != api.OK {
		return nil, e
	}
	var hires []api.Hire
	for _, c := range byKey(o.hires) {
		hires = append(hires, c.hire)
	}
	return hires, api.OK
}
