package shift

import (
	"forecourt/api"
	"forecourt/basic"
)

const (
	farMeter = 10_000_000 // kilometres that a vehicle has gone at most
	farKm    = 1_000_000  // kilometres between services at most
	farDays  = 100_000    // days between services at most
	farDaily = 10_000     // kilometres of a day at most
)

// CheckIntervals says whether intervals are right.
func CheckIntervals(l []api.Interval) api.Errno {
	if len(l) > api.MaxServices {
		return api.ErrLarge
	}
	before := "" // less than all keys
	for _, x := range l {
		switch {
		case !basic.IsKey(x.Kind):
			return api.ErrName
		case x.Kind <= before:
			return api.ErrOrder
		case !basic.Within(x.Km, 0, farKm) || !basic.Within(x.Days, 0, farDays):
			return api.ErrArg
		case x.Km == 0 && x.Days == 0:
			return api.ErrForm
		}
		before = x.Kind
	}
	return api.OK
}

// CheckServices says whether services are right.
func CheckServices(l []api.Serviced) api.Errno {
	if len(l) > api.MaxServices {
		return api.ErrLarge
	}
	before := 0
	for _, s := range l {
		switch {
		case !basic.IsKey(s.Vehicle) || !basic.IsKey(s.Kind):
			return api.ErrName
		case !isDay(s.Day) || !isMeter(s.Meter):
			return api.ErrArg
		case s.Day < before:
			return api.ErrOrder
		}
		before = s.Day
	}
	return api.OK
}

func isDay(day int) bool { return basic.Within(day, 0, api.MaxDay) }

func isMeter(km int) bool { return basic.Within(km, 0, farMeter) }

// Dues returns when services are due.
func Dues(l []api.Interval, done []api.Serviced, first api.Serviced, meter int) ([]api.Due, api.Errno) {
	if e := CheckIntervals(l); e != api.OK {
		return nil, e
	}
	if e := CheckServices(done); e != api.OK {
		return nil, e
	}
	if e := CheckServices([]api.Serviced{first}); e != api.OK {
		return nil, e
	}
	if !isMeter(meter) {
		return nil, api.ErrArg
	}
	last := map[string]api.Serviced{}
	for _, s := range done {
		if s.Vehicle == first.Vehicle {
			last[s.Kind] = s
		}
	}
	dues := make([]api.Due, len(l))
	for i, x := range l {
		from, ok := last[x.Kind]
		if !ok {
			from = first
		}
		dues[i] = dueOf(x, from, meter)
	}
	return dues, api.OK
}

// dueOf is when a service is due again.
func dueOf(x api.Interval, from api.Serviced, meter int) api.Due {
	due := api.Due{Kind: x.Kind, Day: api.NeverDay, Km: api.NeverKm}
	if x.Days != 0 {
		due.Day = from.Day + x.Days
	}
	if x.Km != 0 {
		due.Km = from.Meter + x.Km - meter
	}
	return due
}

// By is the service that is due first, and its day.
func By(l []api.Due, today, daily int) (string, int, api.Errno) {
	if e := checkDues(l); e != api.OK {
		return "", 0, e
	}
	if !isDay(today) || !basic.Within(daily, 0, farDaily) {
		return "", 0, api.ErrArg
	}
	first, least := 0, dayOf(l[0], today, daily)
	for i, d := range l {
		if day := dayOf(d, today, daily); day < least {
			first, least = i, day
		}
	}
	return l[first].Kind, least, api.OK
}

func checkDues(l []api.Due) api.Errno {
	if len(l) == 0 {
		return api.ErrNone
	}
	if len(l) > api.MaxServices {
		return api.ErrLarge
	}
	for _, d := range l {
		if !basic.Within(d.Day, 0, api.NeverDay) || !basic.Within(d.Km, -api.NeverKm, api.NeverKm) {
			return api.ErrArg
		}
	}
	return api.OK
}

// dayOf is the day on which a service is due, by time or by kilometres.
func dayOf(d api.Due, today, daily int) int {
	switch {
	case d.Km == api.NeverKm:
		return d.Day
	case d.Km < 0:
		return min(d.Day, today)
	case daily == 0: // it never comes to these kilometres
		return d.Day
	}
	return min(d.Day, today+d.Km/daily)
}
