package basic

import "forecourt/api"

// NotBack is the In.At of a leg whose vehicle is still out.
const NotBack = -1

// Lasts is the window in which a leg of a hire lasts.
func Lasts(l api.Leg) api.Window {
	if l.In.At == NotBack {
		return api.Window{From: l.Out.At, To: api.End}
	}
	return api.Window{From: l.Out.At, To: l.In.At}
}

// PlateTimes has for each of the plates of a fleet that is right the window in which it is on its vehicle: until one of both goes on with another one.
func PlateTimes(l []api.Plate) []api.Window {
	times := make([]api.Window, len(l))
	next := func(from map[string]int, key string) int {
		if at, again := from[key]; again {
			return at
		}
		return api.End
	}
	// From the last one on: what is in the maps is the next From of a vehicle, or of a plate.
	vehicles, plates := map[string]int{}, map[string]int{}
	for i := len(l) - 1; i >= 0; i-- {
		p := l[i]
		times[i] = api.Window{From: p.From, To: min(next(vehicles, p.Vehicle), next(plates, p.Plate))}
		vehicles[p.Vehicle], plates[p.Plate] = p.From, p.From
	}
	return times
}

// Has says whether a moment is in a window.
func Has(w api.Window, at int) bool { return w.From <= at && at < w.To }

// Overlap is how many moments two windows share.
func Overlap(a, b api.Window) int {
	return max(0, min(a.To, b.To)-max(a.From, b.From))
}
