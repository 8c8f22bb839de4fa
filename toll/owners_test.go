package toll_test

import (
	"fmt"
	"math/rand"
	"slices"
	"testing"

	"forecourt/api"
	"forecourt/toll"
)

// P6.3
func TestOwner(t *testing.T) {
	cases := []struct {
		plate         string
		at            int
		vehicle, hire string
	}{
		{"AB1", 0, "v1", ""}, {"AB1", 99, "v1", ""}, {"AB1", 100, "v1", "h1"}, {"AB1", 299, "v1", "h1"}, {"AB1", 300, "v1", ""},
		{"AB1", 499, "v1", ""}, {"AB1", 500, "v2", "h1"},
		// h3 has v2 as well, from 550 to 700.
		{"AB1", 550, "v2", "h1"}, {"AB1", 599, "v2", "h1"}, {"AB1", 600, "v2", "h2"},
		{"AB1", 649, "v2", "h2"}, {"AB1", 650, "v2", "g1"}, {"AB1", 659, "v2", "g1"}, {"AB1", 660, "v2", "h2"},
		{"AB1", api.End - 1, "v2", "h2"},
		{"CD2", 0, "v2", ""}, {"CD2", 299, "v2", ""}, {"CD2", 300, "v2", "h1"}, {"CD2", 499, "v2", "h1"},
		{"CD2", 500, "", ""}, {"CD2", 799, "", ""}, {"CD2", 800, "v1", ""}, {"CD2", api.End - 1, "v1", ""},
		{"EF3", 0, "v3", ""}, {"EF3", 150, "v3", ""}, {"ZZ9", 150, "", ""},
	}
	for _, c := range cases {
		vehicle, hire, e := toll.Owner(fleet(), hires(), c.plate, c.at)
		what := fmt.Sprint(c.plate, " at ", c.at)
		is(t, what, vehicle, c.vehicle)
		is(t, what, hire, c.hire)
		is(t, what, e, api.OK)
	}
	later := fleet()
	later.Plates = later.Plates[3:]
	vehicle, hire, e := toll.Owner(later, hires(), "AB1", 499)
	is(t, "before the first plate", vehicle+hire, "")
	is(t, "before the first plate", e, api.OK)
	vehicle, hire, e = toll.Owner(api.Fleet{}, hires(), "AB1", 150)
	is(t, "without a fleet", vehicle+hire, "")
	is(t, "without a fleet", e, api.OK)
	vehicle, hire, e = toll.Owner(fleet(), nil, "AB1", 150)
	is(t, "without hires", vehicle, "v1")
	is(t, "without hires", hire, "")
	is(t, "without hires", e, api.OK)
}

// P6.3
func TestOwnerErrors(t *testing.T) {
	inOrder(t, "Owner", func(v values) api.Errno { _, _, e := toll.Owner(v.fleet, v.hires, v.plate, v.at); return e }, badFleet, badHires, badPlate, badMoment)
	cases := []struct {
		plate string
		at    int
		want  api.Errno
	}{
		{"", 5, api.ErrForm}, {"A", 5, api.ErrForm}, {"A1", 5, api.OK}, {"ABCDEFGHI1", 5, api.OK}, {"ABCDEFGHIJ1", 5, api.ErrForm}, {"A-1", 5, api.ErrForm},
		{"AB1", 0, api.OK}, {"AB1", -1, api.ErrArg}, {"AB1", api.End - 1, api.OK}, {"AB1", api.End, api.ErrArg}, {"AB1", least, api.ErrArg}, {"AB1", greatest, api.ErrArg},
	}
	for _, c := range cases {
		vehicle, hire, e := toll.Owner(fleet(), hires(), c.plate, c.at)
		what := fmt.Sprint(c.plate, " at ", c.at)
		is(t, what, e, c.want)
		is(t, what, e != api.OK && vehicle+hire != "", false)
	}
}

// P6.3: the vehicle is that of VehicleOf, and the hire that of With.
func TestOwnerAtRandom(t *testing.T) {
	r := rand.New(rand.NewSource(34))
	hired := 0
	for range 100 {
		f, hires := someFleet(r), someHires(r)
		for range 100 {
			plate, at := somePlate(r), midnight-150+r.Intn(300)
			vehicle, hire, e := toll.Owner(f, hires, plate, at)
			wantVehicle, wantHire := ownerOf(t, f, hires, plate, at)
			is(t, "vehicle", vehicle, wantVehicle)
			is(t, "hire", hire, wantHire)
			is(t, "owner", e, api.OK)
			if hire != "" {
				hired++
			}
		}
	}
	if hired < 500 {
		t.Errorf("only %d hires", hired)
	}
}

// P6.3
func TestUnknown(t *testing.T) {
	cases := []struct {
		what string
		l    []api.Passage
		want []int
	}{
		{"none", nil, nil},
		{"all known", passages(), nil},
		{"no such plate", []api.Passage{pass(10, "g1", "AB1", 1), pass(10, "g1", "AB2", 1), pass(20, "g1", "ZZ9", 1)}, []int{1, 2}},
		{"until a plate is taken off", []api.Passage{pass(499, "g2", "CD2", 1), pass(500, "g2", "CD2", 1)}, []int{1}},
		{"by the true time, with a clock that is ahead", []api.Passage{pass(504, "g1", "CD2", 1), pass(505, "g1", "CD2", 1), pass(804, "g1", "CD2", 1), pass(805, "g1", "CD2", 1)}, []int{1, 2}},
		{"with a clock that is behind", []api.Passage{pass(439, "g3", "CD2", 1), pass(440, "g3", "CD2", 1), pass(739, "g3", "CD2", 1), pass(740, "g3", "CD2", 1)}, []int{1, 2}},
		{"doubles too", []api.Passage{pass(10, "g2", "ZZ9", 1), pass(11, "g2", "ZZ9", 1)}, []int{0, 1}},
	}
	for _, c := range cases {
		l, e := toll.Unknown(fleet(), gates(), c.l)
		same(t, c.what, l, c.want)
		is(t, c.what, e, api.OK)
	}
	inOrder(t, "Unknown", func(v values) api.Errno { _, e := toll.Unknown(v.fleet, v.gates, v.a); return e }, badFleet, badGates, badPassages)
	l, e := toll.Unknown(fleet(), gates(), []api.Passage{pass(4, "g1", "ZZ9", 1)})
	same(t, "before 0", l, nil)
	is(t, "before 0", e, api.ErrRule)
}

// P6.3
func TestUnknownAtRandom(t *testing.T) {
	r := rand.New(rand.NewSource(35))
	for range 100 {
		f, gates, l := someFleet(r), someGates(r), somePassages(r, r.Intn(40))
		var want []int
		for i, p := range l {
			at, _ := toll.True(gates, p)
			if vehicle, _ := ownerOf(t, f, nil, p.Plate, at); vehicle == "" {
				want = append(want, i)
			}
		}
		unknown, e := toll.Unknown(f, gates, l)
		same(t, "unknown", unknown, want)
		is(t, "unknown", e, api.OK)
	}
}

// P6.4
func TestClock(t *testing.T) {
	at := func(moments ...int) []api.Passage {
		return many(len(moments), func(i int) api.Passage { return pass(moments[i], "g1", "AB1", 1) })
	}
	// AB1 is hired from 100 to 299, and from 500 on.
	cases := []struct {
		what        string
		l           []api.Passage
		most        int
		clock, many int
	}{
		{"none", nil, 9, 0, 0},
		{"nothing fits", at(10, 20), 79, 0, 0},
		{"most is 0", at(100, 200, 300), 0, 0, 2},
		{"all fit", at(150, 200), 9, 0, 2},
		{"all fit before", at(98, 297), 5, -2, 2},
		{"all fit behind", at(103, 302), 5, 3, 2},
		{"the nearest one", at(97, 296), 9, -3, 2},
		{"not far enough", at(97, 296), 2, 0, 1},
		{"just far enough", at(90), 10, -10, 1},
		{"of two the one below 0", at(310, 489), 20, -11, 1},
		{"the one above 0 is nearer", at(309, 489), 20, 10, 1},
		{"more fit farther off", at(90, 91, 301), 20, -10, 2},
		{"0 before all that are as good", at(99, 150), 0, 0, 1},
		{"no moment any more", at(5, 310), 20, 11, 1},
		{"a day", at(490), api.DayLong, -10, 1},
		{"another gate", []api.Passage{pass(99, "g1", "AB1", 1), pass(101, "g2", "AB1", 1), pass(302, "g2", "AB1", 1)}, 9, -1, 1},
		{"other plates", []api.Passage{pass(295, "g1", "CD2", 1), pass(302, "g1", "AB1", 1), pass(302, "g1", "EF3", 1), pass(303, "g1", "CD2", 1)}, 9, 3, 2},
		{"doubles count", at(301, 302, 303), 9, 4, 3},
		{"the last moments", at(api.End-1, api.End-2), 9, 0, 2},
	}
	for _, c := range cases {
		clock, count, e := toll.Clock(fleet(), hires(), sorted(c.l), "g1", c.most)
		is(t, c.what, clock, c.clock)
		is(t, c.what, count, c.many)
		is(t, c.what, e, api.OK)
	}
	clock, count, e := toll.Clock(fleet(), hires(), at(99, 150), "g9", 9)
	is(t, "a gate without passages", clock, 0)
	is(t, "a gate without passages", count, 0)
	is(t, "a gate without passages", e, api.OK)
}

// P6.4: moments before 0, and from End on, fit nowhere.
func TestClockAtTheEnds(t *testing.T) {
	hires := []api.Hire{had("h1", "ann", leg("v1", 0, 10)), had("h2", "ann", leg("v2", api.End-5, -1))}
	cases := []struct {
		l           []api.Passage
		clock, many int
	}{
		{[]api.Passage{pass(3, "g1", "AB1", 1), pass(12, "g1", "AB1", 1)}, 3, 2},
		{[]api.Passage{pass(2, "g1", "AB1", 1), pass(12, "g1", "AB1", 1)}, 0, 1},
		{[]api.Passage{pass(api.End-7, "g1", "AB1", 1), pass(api.End-3, "g1", "AB1", 1)}, -2, 2},
		{[]api.Passage{pass(api.End-8, "g1", "AB1", 1), pass(api.End-3, "g1", "AB1", 1)}, 0, 1},
	}
	for _, c := range cases {
		clock, count, e := toll.Clock(fleet(), hires, c.l, "g1", 30)
		is(t, fmt.Sprint(c.l), clock, c.clock)
		is(t, fmt.Sprint(c.l), count, c.many)
		is(t, fmt.Sprint(c.l), e, api.OK)
	}
}

// P6.4
func TestClockErrors(t *testing.T) {
	inOrder(t, "Clock", func(v values) api.Errno {
		_, _, e := toll.Clock(v.fleet, v.hires, v.a, v.gate, v.most)
		return e
	}, badFleet, badHires, badPassages, badGate, badMost)
	runChecks(t, func(l []api.Passage) api.Errno { _, _, e := toll.Clock(fleet(), hires(), l, "g1", 0); return e }, wellFormed)
	// A gate need not be known, and its true times need not be moments.
	loose := []api.Passage{pass(0, "g1", "AB1", 1), pass(1, "g9", "AB1", 1)}
	for most, want := range map[int]api.Errno{0: api.OK, api.DayLong: api.OK, -1: api.ErrArg, api.DayLong + 1: api.ErrArg, least: api.ErrArg, greatest: api.ErrArg} {
		clock, count, e := toll.Clock(fleet(), hires(), loose, "g9", most)
		is(t, fmt.Sprint("most ", most), e, want)
		is(t, fmt.Sprint("most ", most), e != api.OK && (clock != 0 || count != 0), false)
	}
	for _, gate := range []string{"", "G1", longerKey} {
		_, _, e := toll.Clock(fleet(), hires(), loose, gate, 5)
		is(t, gate, e, api.ErrName)
	}
}

// P6.4
func TestClockAtRandom(t *testing.T) {
	r := rand.New(rand.NewSource(36))
	beside := 0
	for range 150 {
		f, hires, l, most := someFleet(r), someHires(r), somePassages(r, r.Intn(30)), r.Intn(25)
		clocks := many(2*most+1, func(i int) int { return i - most })
		fits := map[int]int{}
		for _, clock := range clocks {
			for _, p := range l {
				if _, hire := ownerOf(t, f, hires, p.Plate, p.At-clock); p.Gate == "g2" && hire != "" {
					fits[clock]++
				}
			}
		}
		best := slices.MaxFunc(clocks, func(a, b int) int {
			if fits[a] != fits[b] {
				return fits[a] - fits[b]
			}
			if a*a != b*b {
				return b*b - a*a
			}
			return b - a
		})
		clock, count, e := toll.Clock(f, hires, l, "g2", most)
		is(t, "clock", clock, best)
		is(t, "how many", count, fits[best])
		is(t, "clock", e, api.OK)
		if clock != 0 {
			beside++
		}
	}
	if beside < 15 {
		t.Errorf("only %d clocks beside 0", beside)
	}
}

// P6.3, P6.4: with as much as there can be, results are there at once.
func TestMost(t *testing.T) {
	f := api.Fleet{Classes: []api.Class{{Key: "mini"}}, Vehicles: many(api.MaxVehicles, func(i int) api.Vehicle { return api.Vehicle{Key: key(i), Class: "mini"} })}
	// All plates go to one vehicle, one after the other, which half of all legs have.
	plate := func(i int) string { return fmt.Sprintf("P%03d", i) }
	f.Plates = many(api.MaxPlates, func(i int) api.Plate { return api.Plate{From: i * 2, Vehicle: key(0), Plate: plate(i)} })
	hires := many(api.MaxHires, func(i int) api.Hire {
		return had(key(i), "ann", many(api.MaxLegs, func(j int) api.Leg { return leg(key(j%2), i%7+j*100, i%7+j*100+100) })...)
	})
	l := many(api.MaxPassages, func(i int) api.Passage { return pass(i*2, "g2", plate(i), 1) })
	_, count, e := toll.Clock(f, hires, l, "g2", api.DayLong)
	is(t, "Clock", e, api.OK)
	is(t, "Clock", count > 400, true)
	charges, e := toll.Charges(f, hires, gates(), rules(), l)
	is(t, "Charges", e, api.OK)
	is(t, "Charges", len(charges), len(l))
	for _, i := range []int{0, 3, 4, 50, 105, 500, 999} {
		vehicle, hire := ownerOf(t, f, hires, plate(i), i*2)
		is(t, "vehicle", charges[i].Vehicle, vehicle)
		is(t, "hire", charges[i].Hire, hire)
	}
}
