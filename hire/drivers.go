package hire

import (
	"slices"

	"forecourt/api"
	"forecourt/basic"
	"forecourt/tariff"
)

// farDay is how far days of drivers can be from day 0, and how many days old they can be asked to be.
const farDay = 50_000

// CheckDrivers says whether drivers are right.
func CheckDrivers(l []api.Driver) api.Errno {
	if len(l) > api.MaxDrivers {
		return api.ErrLarge
	}
	before := "" // less than all keys
	for _, d := range l {
		switch {
		case !basic.IsKey(d.Key):
			return api.ErrName
		case d.Key <= before:
			return api.ErrOrder
		case !basic.Within(d.Born, -farDay, api.MaxDay) || !basic.Within(d.From, -farDay, d.To) || d.To > farDay:
			return api.ErrArg
		}
		before = d.Key
	}
	return api.OK
}

func checkAges(l []api.Age) api.Errno {
	if len(l) > api.MaxClasses {
		return api.ErrLarge
	}
	before := "" // less than all keys
	for _, a := range l {
		switch {
		case !basic.IsKey(a.Class):
			return api.ErrName
		case a.Class <= before:
			return api.ErrOrder
		case !basic.Within(a.Days, 0, farDay):
			return api.ErrArg
		}
		before = a.Class
	}
	return api.OK
}

// May says whether somebody may have a vehicle of a class.
func May(l []api.Driver, ages []api.Age, driver, class string, w api.Window) (bool, api.Errno) {
	if e := CheckDrivers(l); e != api.OK {
		return false, e
	}
	if e := checkAges(ages); e != api.OK {
		return false, e
	}
	number := slices.IndexFunc(l, func(d api.Driver) bool { return d.Key == driver })
	if number < 0 {
		return false, api.ErrNone
	}
	if !basic.IsKey(class) {
		return false, api.ErrName
	}
	if _, e := tariff.Days(w); e != api.OK {
		return false, e
	}
	first, last := w.From/api.DayLong, (w.To-1)/api.DayLong
	d := l[number]
	return d.From <= first && last < d.To && first-d.Born >= ageOf(ages, class), api.OK
}

// ageOf is how many days old drivers must be for a class.
func ageOf(ages []api.Age, class string) int {
	for _, a := range ages {
		if a.Class == class {
			return a.Days
		}
	}
	return 0
}
