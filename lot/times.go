package lot

import (
	"forecourt/api"
	"forecourt/basic"
)

// course has all states of a vehicle, one after the other. Each one lasts until the next one begins, the last one until End.
type course []api.State

// coursesOf has the course of each vehicle.
func coursesOf(f api.Fleet, l []api.Event) map[string]course {
	courses := make(map[string]course, len(f.Vehicles))
	for _, v := range f.Vehicles {
		courses[v.Key] = course{{}}
	}
	for _, v := range l {
		c := courses[v.Vehicle]
		if next, ok := basic.Follow(c[len(c)-1], v); ok {
			courses[v.Vehicle] = append(c, next)
		}
	}
	return courses
}

// ends is the moment at which a state of a course is no more.
func (c course) ends(i int) int {
	if i+1 == len(c) {
		return api.End
	}
	return c[i+1].Since
}

// spent is how many moments of a window the vehicle was in each state.
func (c course) spent(w api.Window) api.Spent {
	var minutes [api.StateGone + 1]int
	for i, s := range c {
		minutes[s.State] += basic.Overlap(api.Window{From: s.Since, To: c.ends(i)}, w)
	}
	return api.Spent{
		None:   minutes[api.StateNone],
		Ready:  minutes[api.StateReady],
		Hired:  minutes[api.StateHired],
		Shop:   minutes[api.StateShop],
		Moving: minutes[api.StateMoving],
		Gone:   minutes[api.StateGone],
	}
}

// trips are the times in which the vehicle was hired.
func (c course) trips() []api.Trip {
	var trips []api.Trip
	for i, s := range c {
		if s.State != api.StateHired {
			continue
		}
		// The states before this one and behind it are StateReady: they have the stations of the events.
		trip := api.Trip{From: s.Since, To: -1, A: c[i-1].Station}
		if i+1 < len(c) {
			trip.To, trip.B = c[i+1].Since, c[i+1].Station
		}
		trips = append(trips, trip)
	}
	return trips
}

// SpentIn tells how long a vehicle was in each state.
func SpentIn(f api.Fleet, l []api.Event, vehicle string, w api.Window) (api.Spent, api.Errno) {
	if e := checkVehicle(f, l, vehicle); e != api.OK {
		return api.Spent{}, e
	}
	if !basic.IsWindow(w) {
		return api.Spent{}, api.ErrArg
	}
	return coursesOf(f, l)[vehicle].spent(w), api.OK
}

// Use is which part of the time of all vehicles they were hired.
func Use(f api.Fleet, l []api.Event, w api.Window) (api.Fraction, api.Errno) {
	if e := Check(f, l); e != api.OK {
		return api.Fraction{}, e
	}
	if !basic.IsWindow(w) {
		return api.Fraction{}, api.ErrArg
	}
	hired, all := 0, 0
	for _, c := range coursesOf(f, l) {
		s := c.spent(w)
		hired += s.Hired
		all += s.Ready + s.Hired + s.Shop + s.Moving
	}
	if all == 0 {
		return api.Fraction{}, api.ErrNone
	}
	return basic.Lowest(hired, all), api.OK
}

// Trips returns the trips of a vehicle.
func Trips(f api.Fleet, l []api.Event, vehicle string) ([]api.Trip, api.Errno) {
	if e := checkVehicle(f, l, vehicle); e != api.OK {
		return nil, e
	}
	return coursesOf(f, l)[vehicle].trips(), api.OK
}
