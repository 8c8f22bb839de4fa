package toll_test

import (
	"cmp"
	"fmt"
	"math/rand"
	"slices"
	"strings"
	"testing"

	"forecourt/api"
	"forecourt/hire"
	"forecourt/lot"
	"forecourt/toll"
)

// is reports values that differ; lists go to same, for which an empty list is a nil one.
func is[T comparable](t *testing.T, what string, got, want T) {
	t.Helper()
	if got != want {
		t.Errorf("%s: got %v, want %v", what, got, want)
	}
}

func same[T comparable](t *testing.T, what string, got, want []T) {
	t.Helper()
	if !slices.Equal(got, want) {
		t.Errorf("%s: got %v, want %v", what, got, want)
	}
}

// A check is one of a list of some type, with what it has to say.
type check[T any] struct {
	what string
	l    []T
	want api.Errno
}

func runChecks[T any](t *testing.T, function func([]T) api.Errno, checks []check[T]) {
	t.Helper()
	for _, c := range checks {
		is(t, c.what, function(c.l), c.want)
	}
}

// many makes a list of so many elements from their numbers.
func many[T any](count int, element func(i int) T) []T {
	var l []T
	for i := range count {
		l = append(l, element(i))
	}
	return l
}

// key makes keys that are in the order of their numbers.
func key(i int) string { return fmt.Sprintf("k%05d", i) }

// The longest key, and one that is too long.
var (
	longKey   = strings.Repeat("k", api.MaxName)
	longerKey = strings.Repeat("k", api.MaxName+1)
)

const least, greatest = -1 << 63, 1<<63 - 1

// values are arguments for all functions.
type values struct {
	fleet       api.Fleet
	hires       []api.Hire
	gates       []api.Gate
	rules       api.TollRules
	a, b        []api.Passage
	plate       string
	at          int
	gate        string
	most        int
	charges     []api.Charge
	hire        string
	noticeRules api.NoticeRules
	notices     []api.Notice
}

func someValues() values {
	return values{
		fleet: fleet(), hires: hires(), gates: gates(), rules: rules(), a: passages(), b: others(),
		plate: "AB1", at: 150, gate: "g1", most: 20,
		charges: []api.Charge{charge(2, "h1", "v1", 30), charge(5, "", "v2", 40)}, hire: "h1",
		noticeRules: noticeRules(), notices: notices(),
	}
}

// A fault makes one of the values wrong.
type fault struct {
	what   string
	change func(v *values)
	want   api.Errno
}

// Faults, each with an error of its own.
var (
	badFleet       = fault{"fleet", func(v *values) { v.fleet.Classes[0].Up = "mini" }, api.ErrLoop}
	badHires       = fault{"hires", func(v *values) { v.hires[1].Legs[1].Vehicle = "v1" }, api.ErrRule}
	badRules       = fault{"rules", func(v *values) { v.rules.Fee = -1 }, api.ErrArg}
	badGates       = fault{"gates", func(v *values) { v.gates[1].Key = "a" }, api.ErrOrder}
	badPassages    = fault{"passages", func(v *values) { v.a[0].Plate = "ab" }, api.ErrForm}
	badOthers      = fault{"other passages", func(v *values) { v.b[0].Gate = "G" }, api.ErrName}
	badPlate       = fault{"plate", func(v *values) { v.plate = "ab" }, api.ErrForm}
	badMoment      = fault{"moment", func(v *values) { v.at = api.End }, api.ErrArg}
	badGate        = fault{"gate", func(v *values) { v.gate = "G" }, api.ErrName}
	badMost        = fault{"most", func(v *values) { v.most = -1 }, api.ErrArg}
	badCharges     = fault{"charges", func(v *values) { v.charges[1].Passage = 2 }, api.ErrOrder}
	badHire        = fault{"hire", func(v *values) { v.hire = "" }, api.ErrName}
	badNoticeRules = fault{"rules of notices", func(v *values) { v.noticeRules.Step = 0 }, api.ErrArg}
	badNotices     = fault{"notices", func(v *values) { v.notices[0].Plate = "ab" }, api.ErrForm}
)

// inOrder says that a function has the error of the first one of these faults, whichever others there are behind it.
func inOrder(t *testing.T, what string, function func(v values) api.Errno, faults ...fault) {
	t.Helper()
	is(t, what, function(someValues()), api.OK)
	for i, first := range faults {
		for _, second := range faults[i:] {
			v := someValues()
			second.change(&v)
			first.change(&v)
			is(t, what+": "+first.what+", "+second.what, function(v), first.want)
		}
	}
}

// fleet has AB1 on v1 until 500, then on v2, and CD2 on v2 until 500, and from 800 on on v1. v3 has EF3, and v4 nothing.
func fleet() api.Fleet {
	return api.Fleet{
		Classes:  []api.Class{{Key: "mini"}},
		Vehicles: many(4, func(i int) api.Vehicle { return api.Vehicle{Key: fmt.Sprint("v", i+1), Class: "mini"} }),
		Plates: []api.Plate{
			{From: 0, Vehicle: "v1", Plate: "AB1"}, {From: 0, Vehicle: "v2", Plate: "CD2"}, {From: 0, Vehicle: "v3", Plate: "EF3"},
			{From: 500, Vehicle: "v2", Plate: "AB1"}, {From: 800, Vehicle: "v1", Plate: "CD2"},
		},
	}
}

func leg(vehicle string, from, to int) api.Leg {
	l := api.Leg{Vehicle: vehicle, Out: api.Reading{At: from, Station: "s1"}, In: api.Reading{At: to}}
	if to != -1 {
		l.In.Station = "s1"
	}
	return l
}

func had(key, driver string, legs ...api.Leg) api.Hire {
	from := legs[0].Out.At
	return api.Hire{Key: key, Driver: driver, Time: api.Window{From: from, To: from + 1}, Legs: legs}
}

// hires has v1 with h1 until 300, and v2 then; h2 has v2 from 600 on, and has not given it back. Others have v2 with them: g1 from 650 to 660, and h3 from 550 to 700.
func hires() []api.Hire {
	return []api.Hire{
		had("g1", "ann", leg("v2", 650, 660)),
		had("h1", "ann", leg("v1", 100, 300), leg("v2", 300, 600)),
		had("h2", "bob", leg("v2", 600, -1)),
		had("h3", "eve", leg("v2", 550, 700)),
	}
}

// gates: the clock of g1 is 5 minutes ahead, that of g3 an hour behind.
func gates() []api.Gate {
	return []api.Gate{{Key: "g1", Area: "city", Clock: 5}, {Key: "g2", Area: "city"}, {Key: "g3", Area: "ring", Clock: -60}}
}

func rules() api.TollRules { return api.TollRules{Double: 10, Cap: 100, Fee: 9} }

func pass(at int, gate, plate string, cents int) api.Passage {
	return api.Passage{At: at, Gate: gate, Plate: plate, Cents: cents}
}

func passages() []api.Passage {
	return []api.Passage{pass(110, "g1", "AB1", 70), pass(115, "g1", "AB1", 70), pass(300, "g2", "CD2", 80)}
}

func others() []api.Passage {
	return []api.Passage{pass(115, "g1", "AB1", 70), pass(200, "g2", "ZZ9", 5), pass(300, "g3", "EF3", 5)}
}

func charge(passage int, hire, vehicle string, cents int) api.Charge {
	return api.Charge{Hire: hire, Vehicle: vehicle, Passage: passage, Cents: cents}
}

func noticeRules() api.NoticeRules { return api.NoticeRules{Name: 10, Pay: 14, Step: 7, Late: 500} }

func notice(key, plate string, at, came int) api.Notice {
	return api.Notice{Key: key, Plate: plate, At: at, Came: came, Cents: 2000}
}

func notices() []api.Notice {
	return []api.Notice{notice("n1", "AB1", 150, 2000), notice("n2", "CD2", 700, 3000), notice("n3", "AB1", 610, 10*api.DayLong)}
}

// sorted puts passages in order, and leaves out those that are at one place in it.
func sorted(l []api.Passage) []api.Passage {
	order := func(a, b api.Passage) int {
		return cmp.Or(cmp.Compare(a.At, b.At), cmp.Compare(a.Gate, b.Gate), cmp.Compare(a.Plate, b.Plate))
	}
	slices.SortStableFunc(l, order)
	return slices.CompactFunc(l, func(a, b api.Passage) bool { return order(a, b) == 0 })
}

// Values at random are from the moment midnight - 60 on, for about two hours.
const midnight = 5 * api.DayLong

func someMoment(r *rand.Rand) int { return midnight - 60 + r.Intn(120) }

func somePlate(r *rand.Rand) string { return []string{"AA1", "BB2", "CC3", "DD4"}[r.Intn(4)] }

// someFleet has plates that go from one of three vehicles to another one.
func someFleet(r *rand.Rand) api.Fleet {
	f := api.Fleet{Classes: []api.Class{{Key: "mini"}}, Vehicles: []api.Vehicle{{Key: "v1", Class: "mini"}, {Key: "v2", Class: "mini"}, {Key: "v3", Class: "mini"}}}
	for at := midnight - 80 + r.Intn(30); at < midnight+60; at += 1 + r.Intn(30) {
		f.Plates = append(f.Plates, api.Plate{From: at, Vehicle: fmt.Sprint("v", 1+r.Intn(3)), Plate: somePlate(r)})
	}
	return f
}

// someHires has hires that can have one vehicle at one moment, and such whose vehicle is not in a fleet.
func someHires(r *rand.Rand) []api.Hire {
	return many(r.Intn(9), func(i int) api.Hire {
		at, vehicle := someMoment(r)-r.Intn(60), r.Intn(4)
		var legs []api.Leg
		for range 1 + r.Intn(3) {
			next := at + 1 + r.Intn(50)
			legs = append(legs, leg(fmt.Sprint("v", 1+vehicle), at, next))
			at, vehicle = next, (vehicle+1+r.Intn(3))%4
		}
		if last := len(legs) - 1; r.Intn(3) == 0 {
			legs[last].In = api.Reading{At: -1}
		}
		return had(key(i), []string{"ann", "bob"}[r.Intn(2)], legs...)
	})
}

func someGates(r *rand.Rand) []api.Gate {
	return many(3, func(i int) api.Gate {
		return api.Gate{Key: fmt.Sprint("g", i+1), Area: []string{"city", "ring"}[r.Intn(2)], Clock: r.Intn(41) - 20}
	})
}

func somePassages(r *rand.Rand, count int) []api.Passage {
	return sorted(many(count, func(int) api.Passage {
		return pass(someMoment(r), fmt.Sprint("g", 1+r.Intn(3)), somePlate(r), r.Intn(50))
	}))
}

func someRules(r *rand.Rand) api.TollRules {
	return api.TollRules{Double: r.Intn(30), Cap: r.Intn(120) - 1, Fee: r.Intn(9)}
}

// ownerOf asks chapters 1 and 4.
func ownerOf(t *testing.T, f api.Fleet, hires []api.Hire, plate string, at int) (string, string) {
	t.Helper()
	vehicle, has, e := lot.VehicleOf(f, plate, at)
	is(t, "VehicleOf", e, api.OK)
	if !has {
		return "", ""
	}
	holder, _, e := hire.With(hires, vehicle, at)
	is(t, "With", e, api.OK)
	return vehicle, holder
}

// mustCheck is for tests that need what is right.
func mustCheck(t *testing.T, gates []api.Gate, l []api.Passage) {
	t.Helper()
	if e := toll.Check(gates, l); e != api.OK {
		t.Fatalf("the passages of the test have error %d: %v", e, l)
	}
}
