package toll

import (
	"slices"

	"forecourt/api"
	"forecourt/basic"
	"forecourt/hire"
	"forecourt/lot"
)

// nobody stands where there is no vehicle, or no hire: then the office pays.
const nobody = ""

// hold is a time in which somebody has something.
type hold struct {
	by   string
	time api.Window
}

// timeline says who has something at each moment: by[i] from the moment from[i] on, and before from[i+1]; nobody before from[0].
type timeline struct {
	from []int
	by   []string
}

// timelineOf puts holds together. At a moment that several ones share, the first one of the list counts.
func timelineOf(holds []hold) timeline {
	var t timeline
	for _, h := range holds {
		t.from = append(t.from, h.time.From, h.time.To)
	}
	slices.Sort(t.from)
	t.from = slices.Compact(t.from)
	t.by = make([]string, len(t.from))
	for _, h := range holds {
		i, _ := slices.BinarySearch(t.from, h.time.From)
		for ; t.from[i] < h.time.To; i++ {
			if t.by[i] == nobody {
				t.by[i] = h.by
			}
		}
	}
	return t
}

func (t timeline) at(moment int) string {
	i, begins := slices.BinarySearch(t.from, moment)
	if !begins {
		i--
	}
	if i < 0 {
		return nobody
	}
	return t.by[i]
}

// owners knows what Owner says, for any number of passages: chapters 1 and 4 check all vehicles and hires again for each one that they are asked for.
type owners struct {
	vehicles map[string]timeline // which ones have a plate
	hires    map[string]timeline // which ones have a vehicle
}

// ownersOf needs a fleet and hires that are right. Hires are in order of their keys: the least one counts.
func ownersOf(f api.Fleet, hires []api.Hire) owners {
	plates, vehicles := map[string][]hold{}, map[string][]hold{}
	for i, w := range basic.PlateTimes(f.Plates) {
		p := f.Plates[i]
		plates[p.Plate] = append(plates[p.Plate], hold{p.Vehicle, w})
	}
	for _, h := range hires {
		for _, leg := range h.Legs {
			vehicles[leg.Vehicle] = append(vehicles[leg.Vehicle], hold{h.Key, basic.Lasts(leg)})
		}
	}
	return owners{timelinesOf(plates), timelinesOf(vehicles)}
}

func timelinesOf(holds map[string][]hold) map[string]timeline {
	timelines := make(map[string]timeline, len(holds))
	for key, l := range holds {
		timelines[key] = timelineOf(l)
	}
	return timelines
}

// vehicle is which vehicle has a plate at a moment.
func (o owners) vehicle(plate string, at int) string { return o.vehicles[plate].at(at) }

// hire is which hire has the vehicle with a plate at a moment.
func (o owners) hire(plate string, at int) string {
	// No hire has a vehicle without a key.
	return o.hires[o.vehicle(plate, at)].at(at)
}

func checkOwners(f api.Fleet, hires []api.Hire) api.Errno {
	if e := lot.CheckFleet(f); e != api.OK {
		return e
	}
	return hire.CheckAll(hires)
}

// Owner is who has a plate: a vehicle, and a hire.
func Owner(f api.Fleet, hires []api.Hire, plate string, at int) (string, string, api.Errno) {
	if e := checkOwners(f, hires); e != api.OK {
		return "", "", e
	}
	if !basic.IsPlate(plate) {
		return "", "", api.ErrForm
	}
	if !basic.IsMoment(at) {
		return "", "", api.ErrArg
	}
	who := ownersOf(f, hires)
	return who.vehicle(plate, at), who.hire(plate, at), api.OK
}

// Unknown returns the passages whose plate no vehicle has.
func Unknown(f api.Fleet, gates []api.Gate, l []api.Passage) ([]int, api.Errno) {
	if e := lot.CheckFleet(f); e != api.OK {
		return nil, e
	}
	if e := Check(gates, l); e != api.OK {
		return nil, e
	}
	known, who := gatesOf(gates), ownersOf(f, nil)
	var unknown []int
	for number, p := range l {
		if who.vehicle(p.Plate, known.trueTime(p)) == nobody {
			unknown = append(unknown, number)
		}
	}
	return unknown, api.OK
}

// Clock looks for the clock of a gate.
func Clock(f api.Fleet, hires []api.Hire, l []api.Passage, gate string, most int) (int, int, api.Errno) {
	if e := checkOwners(f, hires); e != api.OK {
		return 0, 0, e
	}
	if e := checkForm(l); e != api.OK {
		return 0, 0, e
	}
	if !basic.IsKey(gate) {
		return 0, 0, api.ErrName
	}
	if !basic.Within(most, 0, api.DayLong) {
		return 0, 0, api.ErrArg
	}
	who := ownersOf(f, hires)
	fitting := func(clock int) int {
		many := 0
		for _, p := range l {
			if at := p.At - clock; p.Gate == gate && basic.IsMoment(at) && who.hire(p.Plate, at) != nobody {
				many++
			}
		}
		return many
	}
	best, many := 0, fitting(0)
	// Of several clocks that are as good the first one is kept.
	for minutes := 1; minutes <= most; minutes++ {
		for _, clock := range [...]int{-minutes, minutes} {
			if n := fitting(clock); n > many {
				best, many = clock, n
			}
		}
	}
	return best, many, api.OK
}
