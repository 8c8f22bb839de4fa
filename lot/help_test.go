package lot_test

import (
	"fmt"
	"math/rand"
	"slices"
	"strings"
	"testing"

	"forecourt/api"
	"forecourt/lot"
)

// is reports values that differ; lists go to same, for which an empty list is a nil one.
func is[T comparable](t *testing.T, what string, got, want T) {
	t.Helper()
	if got != want {
		t.Errorf("%s: got %v, want %v", what, got, want)
	}
}

func same[T comparable](t *testing.T, what string, got, want []T) {
	t.Helper()
	if !slices.Equal(got, want) {
		t.Errorf("%s: got %v, want %v", what, got, want)
	}
}

func sameFleet(t *testing.T, what string, got, want api.Fleet) {
	t.Helper()
	same(t, what+": stations", got.Stations, want.Stations)
	same(t, what+": classes", got.Classes, want.Classes)
	same(t, what+": vehicles", got.Vehicles, want.Vehicles)
	same(t, what+": plates", got.Plates, want.Plates)
}

func allWeek(from, to int) [7]api.Window {
	var hours [7]api.Window
	for day := range hours {
		hours[day] = api.Window{From: from, To: to}
	}
	return hours
}

// fleet has three stations, five classes (mini, midi, maxi lead up; van leads to maxi; bike is alone), and six vehicles.
func fleet() api.Fleet {
	north := api.Station{Key: "north"}
	north.Hours[0] = api.Window{From: 480, To: 1080}
	return api.Fleet{
		Stations: []api.Station{{Key: "air", Hours: allWeek(0, api.DayLong)}, north, {Key: "south"}},
		Classes:  []api.Class{{Key: "bike"}, {Key: "maxi"}, {Key: "midi", Up: "maxi"}, {Key: "mini", Up: "midi"}, {Key: "van", Up: "maxi"}},
		Vehicles: []api.Vehicle{{Key: "v1", Class: "maxi"}, {Key: "v2", Class: "mini"}, {Key: "v3", Class: "midi"}, {Key: "v4", Class: "mini"}, {Key: "v5", Class: "van"}, {Key: "v6", Class: "bike"}},
		Plates: []api.Plate{
			{From: 10, Vehicle: "v1", Plate: "AA1"},
			{From: 10, Vehicle: "v2", Plate: "BB2"},
			{From: 20, Vehicle: "v3", Plate: "CC3"},
		},
	}
}

// badFleet has an error that no log and no argument of the tests leads to.
func badFleet() api.Fleet {
	f := fleet()
	f.Plates[0].Plate = "x"
	return f
}

const badFleetError = api.ErrForm

func event(at int, vehicle string, kind int, station string) api.Event {
	return api.Event{At: at, Vehicle: vehicle, Kind: kind, Station: station}
}

func leave(at int, vehicle, from, to string) api.Event {
	return api.Event{At: at, Vehicle: vehicle, Kind: api.EventLeave, Station: from, To: to}
}

// logOf makes a right log of random events; many of them are broken.
func logOf(r *rand.Rand, f api.Fleet, count, most int) []api.Event {
	var l []api.Event
	for range count {
		station := r.Intn(len(f.Stations))
		v := event(r.Intn(most), f.Vehicles[r.Intn(len(f.Vehicles))].Key, 1+r.Intn(8), f.Stations[station].Key)
		if v.Kind == api.EventLeave {
			v.To = f.Stations[(station+1+r.Intn(len(f.Stations)-1))%len(f.Stations)].Key
		}
		l = append(l, v)
	}
	return inOrder(l)
}

// inOrder sorts events, and keeps one of each vehicle and moment.
func inOrder(l []api.Event) []api.Event {
	slices.SortStableFunc(l, compare)
	return slices.CompactFunc(l, func(a, b api.Event) bool { return compare(a, b) == 0 })
}

func compare(a, b api.Event) int {
	if a.At != b.At {
		return a.At - b.At
	}
	return strings.Compare(a.Vehicle, b.Vehicle)
}

// keys makes so many keys in order.
func keys(prefix string, count int) []string {
	var l []string
	for i := range count {
		l = append(l, fmt.Sprintf("%s%05d", prefix, i))
	}
	return l
}

// longLog makes a right log of so many events of the first vehicle.
func longLog(f api.Fleet, count int) []api.Event {
	var l []api.Event
	for at := range count {
		l = append(l, event(at, f.Vehicles[0].Key, api.EventOut, f.Stations[0].Key))
	}
	return l
}

// checksFirst asks that a function with a fleet and a log returns their errors, in this order, before its own.
func checksFirst(t *testing.T, what string, call func(f api.Fleet, l []api.Event) api.Errno) {
	t.Helper()
	badLog := []api.Event{event(5, "v1", 9, "air")}
	is(t, what+": fleet before log", call(badFleet(), badLog), badFleetError)
	is(t, what+": log", call(fleet(), badLog), api.ErrKind)
	is(t, what+": large log", call(fleet(), longLog(fleet(), api.MaxEvents+1)), api.ErrLarge)
	is(t, what+": log in order", call(fleet(), []api.Event{event(5, "v1", 1, "air"), event(4, "v1", 1, "air")}), api.ErrOrder)
}

func mustCheck(t *testing.T, f api.Fleet, l []api.Event) {
	t.Helper()
	if e := lot.Check(f, l); e != api.OK {
		t.Fatalf("the log of the test has error %d", e)
	}
}
