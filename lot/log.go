package lot

import (
	"forecourt/api"
	"forecourt/basic"
)

// Check says whether a log is right.
func Check(f api.Fleet, l []api.Event) api.Errno {
	if e := CheckFleet(f); e != api.OK {
		return e
	}
	if len(l) > api.MaxEvents {
		return api.ErrLarge
	}
	for i, v := range l {
		if e := checkEvent(f, v); e != api.OK {
			return e
		}
		if i > 0 && basic.CompareEvents(l[i-1], v) >= 0 {
			return api.ErrOrder
		}
	}
	return api.OK
}

// checkEvent checks an event of a fleet that is right.
func checkEvent(f api.Fleet, v api.Event) api.Errno {
	leaves := v.Kind == api.EventLeave
	switch {
	case !basic.IsMoment(v.At):
		return api.ErrArg
	case !hasVehicle(f, v.Vehicle) || !hasStation(f, v.Station):
		return api.ErrNone
	case v.Kind < api.EventEnter || v.Kind > api.EventGone:
		return api.ErrKind
	case v.To != "" && !leaves:
		return api.ErrForm
	case leaves && !hasStation(f, v.To):
		return api.ErrNone
	case v.To == v.Station:
		return api.ErrLoop
	}
	return api.OK
}

// Merge puts two logs together.
func Merge(f api.Fleet, a, b []api.Event) ([]api.Event, api.Errno) {
	if e := Check(f, a); e != api.OK {
		return nil, e
	}
	if e := Check(f, b); e != api.OK {
		return nil, e
	}
	return basic.Merge(a, b, basic.CompareEvents, api.MaxEvents)
}
