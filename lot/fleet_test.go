package lot_test

import (
	"fmt"
	"math"
	"math/rand"
	"strings"
	"testing"

	"forecourt/api"
	"forecourt/lot"
)

func vehicles(count int) []api.Vehicle {
	var l []api.Vehicle
	for _, key := range keys("v", count) {
		l = append(l, api.Vehicle{Key: key, Class: "mini"})
	}
	return l
}

func plates(count int) []api.Plate {
	var l []api.Plate
	for from := range count {
		l = append(l, api.Plate{From: from, Vehicle: "v1", Plate: "AA1"})
	}
	return l
}

// P1.3: errors of the parts, and their order.
func TestCheckFleetParts(t *testing.T) {
	is(t, "nothing", lot.CheckFleet(api.Fleet{}), api.OK)
	is(t, "ordinary", lot.CheckFleet(fleet()), api.OK)
	spoil := []struct {
		what string
		do   func(f *api.Fleet)
		want api.Errno
	}{
		// Each one is asked for before all that were spoilt before it.
		{"plates", func(f *api.Fleet) { f.Plates[0].Plate = "x" }, api.ErrForm},
		{"many plates", func(f *api.Fleet) { f.Plates = plates(api.MaxPlates + 1) }, api.ErrLarge},
		{"vehicles", func(f *api.Fleet) { f.Vehicles[0].Key = "V" }, api.ErrName},
		{"classes", func(f *api.Fleet) { f.Classes[0].Up = "bike" }, api.ErrLoop},
		{"stations", func(f *api.Fleet) { f.Stations[0].Hours[0].To = -1 }, api.ErrArg},
	}
	f := fleet()
	for _, s := range spoil {
		s.do(&f)
		is(t, s.what, lot.CheckFleet(f), s.want)
	}
}

// P1.3
func TestCheckVehicles(t *testing.T) {
	cases := []struct {
		what string
		l    []api.Vehicle
		want api.Errno
	}{
		{"MaxVehicles", vehicles(api.MaxVehicles), api.OK},
		{"more", vehicles(api.MaxVehicles + 1), api.ErrLarge},
		{"large before name", append(make([]api.Vehicle, 1), vehicles(api.MaxVehicles)...), api.ErrLarge},
		{"no key", []api.Vehicle{{Class: "mini"}}, api.ErrName},
		{"longer key", []api.Vehicle{{Key: strings.Repeat("v", api.MaxName+1), Class: "mini"}}, api.ErrName},
		{"same key", []api.Vehicle{{Key: "a", Class: "mini"}, {Key: "a", Class: "midi"}}, api.ErrOrder},
		{"lesser key", []api.Vehicle{{Key: "b", Class: "mini"}, {Key: "a", Class: "mini"}}, api.ErrOrder},
		{"name before order", []api.Vehicle{{Key: "b", Class: "mini"}, {Key: "", Class: "mini"}}, api.ErrName},
		{"no class", []api.Vehicle{{Key: "a"}}, api.ErrNone},
		{"another class", []api.Vehicle{{Key: "a", Class: "lorry"}}, api.ErrNone},
		{"order before class", []api.Vehicle{{Key: "b", Class: "mini"}, {Key: "a", Class: "lorry"}}, api.ErrOrder},
		{"class before the next one", []api.Vehicle{{Key: "b", Class: "lorry"}, {Key: "A", Class: "mini"}}, api.ErrNone},
	}
	for _, c := range cases {
		f := fleet()
		f.Vehicles, f.Plates = c.l, nil
		is(t, c.what, lot.CheckFleet(f), c.want)
	}
}

// P1.3
func TestCheckPlates(t *testing.T) {
	a := api.Plate{From: 10, Vehicle: "v2", Plate: "MM5"}
	cases := []struct {
		what string
		l    []api.Plate
		want api.Errno
	}{
		{"MaxPlates", plates(api.MaxPlates), api.OK},
		{"more", plates(api.MaxPlates + 1), api.ErrLarge},
		{"large before all", append([]api.Plate{{From: -1}}, plates(api.MaxPlates)...), api.ErrLarge},
		{"the last moment", []api.Plate{{From: api.End - 1, Vehicle: "v1", Plate: "A1"}}, api.OK},
		{"after it", []api.Plate{{From: api.End, Vehicle: "v1", Plate: "A1"}}, api.ErrArg},
		{"before 0", []api.Plate{{From: -1, Vehicle: "v1", Plate: "A1"}}, api.ErrArg},
		{"great", []api.Plate{{From: math.MaxInt, Vehicle: "v1", Plate: "A1"}}, api.ErrArg},
		{"moment before vehicle", []api.Plate{{From: -1, Vehicle: "v9", Plate: "a"}}, api.ErrArg},
		{"no vehicle", []api.Plate{{From: 1, Vehicle: "v9", Plate: "A1"}}, api.ErrNone},
		{"vehicle before form", []api.Plate{{From: 1, Vehicle: "", Plate: "a"}}, api.ErrNone},
		{"short", []api.Plate{{From: 1, Vehicle: "v1", Plate: "A"}}, api.ErrForm},
		{"shortest", []api.Plate{{From: 1, Vehicle: "v1", Plate: "A1"}}, api.OK},
		{"longest", []api.Plate{{From: 1, Vehicle: "v1", Plate: "ABCDEFGHI1"}}, api.OK},
		{"long", []api.Plate{{From: 1, Vehicle: "v1", Plate: "ABCDEFGHIJ1"}}, api.ErrForm},
		{"small letter", []api.Plate{{From: 1, Vehicle: "v1", Plate: "Ab1"}}, api.ErrForm},
		{"blank", []api.Plate{{From: 1, Vehicle: "v1", Plate: "A 1"}}, api.ErrForm},
		{"form before order", []api.Plate{a, {From: 9, Vehicle: "v1", Plate: "a"}}, api.ErrForm},
		{"earlier", []api.Plate{a, {From: 9, Vehicle: "v3", Plate: "ZZ9"}}, api.ErrOrder},
		{"lesser vehicle", []api.Plate{a, {From: 10, Vehicle: "v1", Plate: "ZZ9"}}, api.ErrOrder},
		{"lesser plate", []api.Plate{a, {From: 10, Vehicle: "v2", Plate: "AA9"}}, api.ErrOrder},
		{"the same", []api.Plate{a, a}, api.ErrOrder},
		{"order before twice", []api.Plate{a, {From: 10, Vehicle: "v1", Plate: "MM5"}}, api.ErrOrder},
		{"vehicle twice", []api.Plate{a, {From: 10, Vehicle: "v2", Plate: "ZZ9"}}, api.ErrTwice},
		{"plate twice", []api.Plate{a, {From: 10, Vehicle: "v3", Plate: "MM5"}}, api.ErrTwice},
		{"plate twice, not at once", []api.Plate{a, {From: 10, Vehicle: "v3", Plate: "AA1"}, {From: 10, Vehicle: "v4", Plate: "MM5"}}, api.ErrTwice},
		{"plate twice at 0", []api.Plate{{From: 0, Vehicle: "v1", Plate: "A1"}, {From: 0, Vehicle: "v2", Plate: "A1"}}, api.ErrTwice},
		{"later", []api.Plate{a, {From: 11, Vehicle: "v2", Plate: "AA1"}, {From: 12, Vehicle: "v1", Plate: "MM5"}}, api.OK},
		{"others at one moment", []api.Plate{a, {From: 10, Vehicle: "v3", Plate: "AA1"}}, api.OK},
		{"at 0", []api.Plate{{From: 0, Vehicle: "v1", Plate: "A1"}, {From: 0, Vehicle: "v2", Plate: "A2"}}, api.OK},
	}
	for _, c := range cases {
		f := fleet()
		f.Plates = c.l
		is(t, c.what, lot.CheckFleet(f), c.want)
	}
}

// P1.3
func TestPlates(t *testing.T) {
	f := fleet()
	f.Plates = append(f.Plates,
		api.Plate{From: 30, Vehicle: "v1", Plate: "DD4"}, // v1 gets another one: AA1 is free
		api.Plate{From: 40, Vehicle: "v4", Plate: "BB2"}, // v2 has none any more
		api.Plate{From: 50, Vehicle: "v4", Plate: "BB2"}, // it stays there
		api.Plate{From: 60, Vehicle: "v1", Plate: "CC3"}, // v1 and v3 change theirs
		api.Plate{From: 60, Vehicle: "v3", Plate: "DD4"},
		api.Plate{From: 70, Vehicle: "v2", Plate: "AA1"}, // a free one
		api.Plate{From: 80, Vehicle: "v4", Plate: "EE5"},
	)
	byVehicle := []struct {
		vehicle string
		at      int
		plate   string
	}{
		{"v1", 9, ""}, {"v1", 10, "AA1"}, {"v1", 29, "AA1"}, {"v1", 30, "DD4"}, {"v1", 59, "DD4"}, {"v1", 60, "CC3"}, {"v1", api.End - 1, "CC3"},
		{"v2", 10, "BB2"}, {"v2", 39, "BB2"}, {"v2", 40, ""}, {"v2", 69, ""}, {"v2", 70, "AA1"},
		{"v3", 19, ""}, {"v3", 20, "CC3"}, {"v3", 60, "DD4"},
		{"v4", 39, ""}, {"v4", 50, "BB2"}, {"v4", 80, "EE5"}, {"v5", 90, ""},
	}
	for _, c := range byVehicle {
		plate, ok, e := lot.PlateOf(f, c.vehicle, c.at)
		what := fmt.Sprint(c.vehicle, " at ", c.at)
		is(t, what, plate, c.plate)
		is(t, what, ok, c.plate != "")
		is(t, what, e, api.OK)
	}
	byPlate := []struct {
		plate   string
		at      int
		vehicle string
	}{
		{"AA1", 9, ""}, {"AA1", 10, "v1"}, {"AA1", 30, ""}, {"AA1", 70, "v2"},
		{"BB2", 39, "v2"}, {"BB2", 40, "v4"}, {"BB2", 79, "v4"}, {"BB2", 80, ""},
		{"CC3", 59, "v3"}, {"CC3", 60, "v1"}, {"DD4", 60, "v3"}, {"ZZ9", 60, ""},
	}
	for _, c := range byPlate {
		vehicle, ok, e := lot.VehicleOf(f, c.plate, c.at)
		what := fmt.Sprint(c.plate, " at ", c.at)
		is(t, what, vehicle, c.vehicle)
		is(t, what, ok, c.vehicle != "")
		is(t, what, e, api.OK)
	}
}

// P1.3: what the words say of one plate, and of one vehicle, is what is found.
func TestPlatesAtRandom(t *testing.T) {
	r := rand.New(rand.NewSource(3))
	for range 200 {
		f := fleet()
		f.Plates = nil
		for from := range 12 {
			vehicles, plates := r.Perm(6), r.Perm(6)
			p := api.Plate{From: from, Vehicle: fmt.Sprint("v", 1+vehicles[0]), Plate: fmt.Sprint("P", plates[0])}
			q := api.Plate{From: from, Vehicle: fmt.Sprint("v", 1+vehicles[1]), Plate: fmt.Sprint("P", plates[1])}
			if q.Vehicle < p.Vehicle {
				p, q = q, p
			}
			f.Plates = append(f.Plates, p, q)
		}
		at := r.Intn(14)
		for _, v := range f.Vehicles {
			plate, _, e := lot.PlateOf(f, v.Key, at)
			is(t, "PlateOf", e, api.OK)
			is(t, "PlateOf", plate, plateByWords(f, v.Key, at))
			if plate != "" {
				vehicle, _, _ := lot.VehicleOf(f, plate, at)
				is(t, "VehicleOf", vehicle, v.Key)
			}
		}
		for n := range 6 {
			plate := fmt.Sprint("P", n)
			if vehicle, ok, _ := lot.VehicleOf(f, plate, at); ok {
				is(t, "VehicleOf", plateByWords(f, vehicle, at), plate)
			}
		}
	}
}

// plateByWords looks for the plate that a vehicle got last, and whether another one got it then.
func plateByWords(f api.Fleet, vehicle string, at int) string {
	got := api.Plate{From: -1}
	for _, p := range f.Plates {
		if p.Vehicle == vehicle && p.From <= at {
			got = p
		}
	}
	for _, p := range f.Plates {
		if p.Plate == got.Plate && p.Vehicle != vehicle && p.From > got.From && p.From <= at {
			return ""
		}
	}
	return got.Plate
}

// P1.3
func TestPlateErrors(t *testing.T) {
	cases := []struct {
		what    string
		f       api.Fleet
		vehicle string
		plate   string
		at      int
		ofPlate api.Errno
		ofCar   api.Errno
	}{
		{"fleet first", badFleet(), "v9", "AA1", -1, badFleetError, badFleetError},
		{"before the moment", fleet(), "v9", "aa", -1, api.ErrNone, api.ErrForm},
		{"short", fleet(), "", "A", 10, api.ErrNone, api.ErrForm},
		{"long", fleet(), "V1", "AAAAAAAAAAA", 10, api.ErrNone, api.ErrForm},
		{"below 0", fleet(), "v1", "AA1", -1, api.ErrArg, api.ErrArg},
		{"no moment", fleet(), "v1", "AA1", api.End, api.ErrArg, api.ErrArg},
		{"least", fleet(), "v1", "AA1", math.MinInt, api.ErrArg, api.ErrArg},
		{"greatest", fleet(), "v1", "AA1", math.MaxInt, api.ErrArg, api.ErrArg},
	}
	for _, c := range cases {
		plate, ok, e := lot.PlateOf(c.f, c.vehicle, c.at)
		is(t, c.what, plate, "")
		is(t, c.what, ok, false)
		is(t, c.what, e, c.ofPlate)
		vehicle, ok, e := lot.VehicleOf(c.f, c.plate, c.at)
		is(t, c.what, vehicle, "")
		is(t, c.what, ok, false)
		is(t, c.what, e, c.ofCar)
	}
}
