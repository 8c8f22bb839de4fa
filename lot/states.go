package lot

import (
	"forecourt/api"
	"forecourt/basic"
)

// statesAt has the states of vehicles at a moment. What is not in it is in the first state, which is the zero value.
func statesAt(l []api.Event, at int) map[string]api.State {
	states := map[string]api.State{}
	for _, v := range l {
		if v.At > at {
			break
		}
		if next, ok := basic.Follow(states[v.Vehicle], v); ok {
			states[v.Vehicle] = next
		}
	}
	return states
}

// Broken returns the numbers of the broken events.
func Broken(f api.Fleet, l []api.Event) ([]int, api.Errno) {
	if e := Check(f, l); e != api.OK {
		return nil, e
	}
	var broken []int
	states := map[string]api.State{}
	for i, v := range l {
		next, ok := basic.Follow(states[v.Vehicle], v)
		if !ok {
			broken = append(broken, i)
		}
		states[v.Vehicle] = next
	}
	return broken, api.OK
}

// StateOf is the state of a vehicle at a moment.
func StateOf(f api.Fleet, l []api.Event, vehicle string, at int) (api.State, api.Errno) {
	if e := checkVehicle(f, l, vehicle); e != api.OK {
		return api.State{}, e
	}
	if e := checkMoment(at); e != api.OK {
		return api.State{}, e
	}
	return statesAt(l, at)[vehicle], api.OK
}

// checkVehicle checks a log, and that there is a vehicle.
func checkVehicle(f api.Fleet, l []api.Event, vehicle string) api.Errno {
	if e := Check(f, l); e != api.OK {
		return e
	}
	if !hasVehicle(f, vehicle) {
		return api.ErrNone
	}
	return api.OK
}

// Ready returns the vehicles at a station that can be given for a class.
func Ready(f api.Fleet, l []api.Event, station, class string, at int) ([]string, api.Errno) {
	if e := Check(f, l); e != api.OK {
		return nil, e
	}
	if !hasStation(f, station) || !hasClass(f, class) {
		return nil, api.ErrNone
	}
	if e := checkMoment(at); e != api.OK {
		return nil, e
	}
	byClass := readyAt(f, statesAt(l, at), station)
	var keys []string
	for _, c := range ladder(upsOf(f.Classes), class) {
		keys = append(keys, byClass[c]...)
	}
	return keys, api.OK
}

// readyAt has the vehicles of each class that are ready at a station, by Key.
func readyAt(f api.Fleet, states map[string]api.State, station string) map[string][]string {
	byClass := map[string][]string{}
	for _, v := range f.Vehicles {
		if s := states[v.Key]; s.State == api.StateReady && s.Station == station {
			byClass[v.Class] = append(byClass[v.Class], v.Key)
		}
	}
	return byClass
}

// Idle returns the vehicles that have been ready for long.
func Idle(f api.Fleet, l []api.Event, least, at int) ([]string, api.Errno) {
	if e := Check(f, l); e != api.OK {
		return nil, e
	}
	if least < 0 || least > api.End {
		return nil, api.ErrArg
	}
	if e := checkMoment(at); e != api.OK {
		return nil, e
	}
	states := statesAt(l, at)
	var keys []string
	for _, v := range f.Vehicles {
		if s := states[v.Key]; s.State == api.StateReady && at-s.Since >= least {
			keys = append(keys, v.Key)
		}
	}
	return keys, api.OK
}
