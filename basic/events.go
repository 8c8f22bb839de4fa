package basic

import (
	"cmp"
	"strings"

	"forecourt/api"
)

// eventWords has the words for the kinds of events.
var eventWords = [...]string{
	api.EventEnter: "enter",
	api.EventOut:   "out",
	api.EventBack:  "back",
	api.EventShop:  "shop",
	api.EventDone:  "done",
	api.EventLeave: "leave",
	api.EventCome:  "come",
	api.EventGone:  "gone",
}

// EventWord is the word for a kind of events.
func EventWord(kind int) string { return eventWords[kind] }

// EventKind is the kind of events with a word; 0 if there is none.
func EventKind(word string) int {
	for kind, w := range eventWords {
		if w == word {
			return kind
		}
	}
	return 0
}

// CompareEvents is the order of a log.
func CompareEvents(a, b api.Event) int {
	return cmp.Or(cmp.Compare(a.At, b.At), strings.Compare(a.Vehicle, b.Vehicle))
}

// changes has the state before and behind an event of each kind.
var changes = [...]struct{ before, after int }{
	api.EventEnter: {api.StateNone, api.StateReady},
	api.EventOut:   {api.StateReady, api.StateHired},
	api.EventBack:  {api.StateHired, api.StateReady},
	api.EventShop:  {api.StateReady, api.StateShop},
	api.EventDone:  {api.StateShop, api.StateReady},
	api.EventLeave: {api.StateReady, api.StateMoving},
	api.EventCome:  {api.StateMoving, api.StateReady},
	api.EventGone:  {api.StateReady, api.StateGone},
}

// Follow returns the state of a vehicle behind an event of one of the kinds, and true; the state as it was, and false, if the event is broken.
func Follow(s api.State, v api.Event) (api.State, bool) {
	change := changes[v.Kind]
	// A state without a station can be left at any one.
	if s.State != change.before || s.Station != "" && s.Station != v.Station {
		return s, false
	}
	next := api.State{State: change.after, Since: v.At}
	switch change.after {
	case api.StateReady, api.StateShop:
		next.Station = v.Station
	case api.StateMoving:
		next.Station = v.To
	}
	return next, true
}
