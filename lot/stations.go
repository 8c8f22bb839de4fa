// Package lot has stations, classes, vehicles, plates, and what happens to vehicles.
package lot

import (
	"forecourt/api"
	"forecourt/basic"
)

// CheckStations says whether stations are right.
func CheckStations(l []api.Station) api.Errno {
	if len(l) > api.MaxStations {
		return api.ErrLarge
	}
	before := "" // less than all keys
	for _, s := range l {
		switch {
		case !basic.IsKey(s.Key):
			return api.ErrName
		case s.Key <= before:
			return api.ErrOrder
		case !rightHours(s.Hours):
			return api.ErrArg
		}
		before = s.Key
	}
	return api.OK
}

func rightHours(hours [7]api.Window) bool {
	for _, h := range hours {
		if h.From < 0 || h.From > h.To || h.To > api.DayLong {
			return false
		}
	}
	return true
}

// IsOpen says whether a station is open.
func IsOpen(s api.Station, at int) (bool, api.Errno) {
	if e := checkStationAt(s, at); e != api.OK {
		return false, e
	}
	return basic.Has(hoursOn(s, at/api.DayLong), at), api.OK
}

// NextOpen is the next moment at which a station is open.
func NextOpen(s api.Station, at int) (int, api.Errno) {
	if e := checkStationAt(s, at); e != api.OK {
		return 0, e
	}
	today := at / api.DayLong
	// The weekday of the moment can come again: its hours may be over today.
	for day := today; day <= min(today+7, api.MaxDay); day++ {
		hours := hoursOn(s, day)
		if next := max(at, hours.From); next < hours.To {
			return next, api.OK
		}
	}
	return 0, api.ErrNone
}

// OpenMinutes is at how many moments of a window a station is open.
func OpenMinutes(s api.Station, w api.Window) (int, api.Errno) {
	if e := CheckStations([]api.Station{s}); e != api.OK {
		return 0, e
	}
	if !basic.IsWindow(w) {
		return 0, api.ErrArg
	}
	sum := 0
	for day := w.From / api.DayLong; day*api.DayLong < w.To; day++ {
		sum += basic.Overlap(hoursOn(s, day), w)
	}
	return sum, api.OK
}

func checkStationAt(s api.Station, at int) api.Errno {
	if e := CheckStations([]api.Station{s}); e != api.OK {
		return e
	}
	return checkMoment(at)
}

func checkMoment(at int) api.Errno {
	if !basic.IsMoment(at) {
		return api.ErrArg
	}
	return api.OK
}

// hoursOn is the window of moments in which a station is open on a day.
func hoursOn(s api.Station, day int) api.Window {
	begin := day * api.DayLong
	hours := s.Hours[day%7]
	return api.Window{From: begin + hours.From, To: begin + hours.To}
}
