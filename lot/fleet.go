package lot

import (
	"cmp"
	"slices"
	"strings"

	"forecourt/api"
	"forecourt/basic"
)

// CheckFleet says whether a fleet is right.
func CheckFleet(f api.Fleet) api.Errno {
	if e := CheckStations(f.Stations); e != api.OK {
		return e
	}
	if e := CheckClasses(f.Classes); e != api.OK {
		return e
	}
	if e := checkVehicles(f); e != api.OK {
		return e
	}
	return checkPlates(f)
}

// checkVehicles checks the vehicles of a fleet whose classes are right.
func checkVehicles(f api.Fleet) api.Errno {
	if len(f.Vehicles) > api.MaxVehicles {
		return api.ErrLarge
	}
	before := "" // less than all keys
	for _, v := range f.Vehicles {
		switch {
		case !basic.IsKey(v.Key):
			return api.ErrName
		case v.Key <= before:
			return api.ErrOrder
		case !hasClass(f, v.Class):
			return api.ErrNone
		}
		before = v.Key
	}
	return api.OK
}

// checkPlates checks the plates of a fleet whose vehicles are right.
func checkPlates(f api.Fleet) api.Errno {
	if len(f.Plates) > api.MaxPlates {
		return api.ErrLarge
	}
	// The plates are in order of From: if an earlier one has the same From, so has the latest one.
	vehicleAt, plateAt := map[string]int{}, map[string]int{}
	for i, p := range f.Plates {
		switch {
		case !basic.IsMoment(p.From):
			return api.ErrArg
		case !hasVehicle(f, p.Vehicle):
			return api.ErrNone
		case !basic.IsPlate(p.Plate):
			return api.ErrForm
		case i > 0 && comparePlates(f.Plates[i-1], p) >= 0:
			return api.ErrOrder
		case hasNumber(vehicleAt, p.Vehicle, p.From) || hasNumber(plateAt, p.Plate, p.From):
			return api.ErrTwice
		}
		vehicleAt[p.Vehicle] = p.From
		plateAt[p.Plate] = p.From
	}
	return api.OK
}

func comparePlates(a, b api.Plate) int {
	return cmp.Or(cmp.Compare(a.From, b.From), strings.Compare(a.Vehicle, b.Vehicle), strings.Compare(a.Plate, b.Plate))
}

func hasNumber(numbers map[string]int, key string, number int) bool {
	n, known := numbers[key]
	return known && n == number
}

// The lists of a fleet that was checked are in order of their keys.

func hasStation(f api.Fleet, key string) bool {
	_, found := slices.BinarySearchFunc(f.Stations, key, func(s api.Station, key string) int {
		return strings.Compare(s.Key, key)
	})
	return found
}

func hasClass(f api.Fleet, key string) bool {
	_, found := slices.BinarySearchFunc(f.Classes, key, func(c api.Class, key string) int {
		return strings.Compare(c.Key, key)
	})
	return found
}

func hasVehicle(f api.Fleet, key string) bool {
	_, found := slices.BinarySearchFunc(f.Vehicles, key, func(v api.Vehicle, key string) int {
		return strings.Compare(v.Key, key)
	})
	return found
}

// PlateOf is the plate of a vehicle.
func PlateOf(f api.Fleet, vehicle string, at int) (string, bool, api.Errno) {
	if e := CheckFleet(f); e != api.OK {
		return "", false, e
	}
	if !hasVehicle(f, vehicle) {
		return "", false, api.ErrNone
	}
	if e := checkMoment(at); e != api.OK {
		return "", false, e
	}
	p, has := plateAt(f, at, func(p api.Plate) bool { return p.Vehicle == vehicle })
	return p.Plate, has, api.OK
}

// VehicleOf is the vehicle that has a plate.
func VehicleOf(f api.Fleet, plate string, at int) (string, bool, api.Errno) {
	if e := CheckFleet(f); e != api.OK {
		return "", false, e
	}
	if !basic.IsPlate(plate) {
		return "", false, api.ErrForm
	}
	if e := checkMoment(at); e != api.OK {
		return "", false, e
	}
	p, has := plateAt(f, at, func(p api.Plate) bool { return p.Plate == plate })
	return p.Vehicle, has, api.OK
}

// plateAt is the plate of those that are meant that is on its vehicle at a moment, and whether there is one.
func plateAt(f api.Fleet, at int, meant func(p api.Plate) bool) (api.Plate, bool) {
	for i, w := range basic.PlateTimes(f.Plates) {
		if basic.Has(w, at) && meant(f.Plates[i]) {
			return f.Plates[i], true
		}
	}
	return api.Plate{}, false
}
