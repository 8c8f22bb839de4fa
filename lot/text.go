package lot

import (
	"strconv"
	"strings"

	"forecourt/api"
	"forecourt/basic"
)

// none is written for a class without an Up.
const none = "-"

// TextFleet writes a fleet.
func TextFleet(f api.Fleet) (string, api.Errno) {
	if e := CheckFleet(f); e != api.OK {
		return "", e
	}
	var lines basic.Writer
	for _, s := range f.Stations {
		words := []string{"station", s.Key}
		for _, h := range s.Hours {
			words = append(words, strconv.Itoa(h.From)+"-"+strconv.Itoa(h.To))
		}
		lines.Line(words...)
	}
	for _, c := range f.Classes {
		up := c.Up
		if up == "" {
			up = none
		}
		lines.Line("class", c.Key, up)
	}
	for _, v := range f.Vehicles {
		lines.Line("vehicle", v.Key, v.Class)
	}
	for _, p := range f.Plates {
		lines.Line("plate", strconv.Itoa(p.From), p.Vehicle, p.Plate)
	}
	return lines.Whole()
}

// ReadFleet reads a fleet.
func ReadFleet(text string) (api.Fleet, int, api.Errno) {
	var r fleetReader
	if line, e := basic.Lines(text, r.read); e != api.OK {
		return api.Fleet{}, line, e
	}
	if e := CheckFleet(r.fleet); e != api.OK {
		return api.Fleet{}, 0, e
	}
	return r.fleet, 0, api.OK
}

// Kinds of lines, in the order in which they come.
const (
	stationLine = iota
	classLine
	vehicleLine
	plateLine
)

// fleetReader has the fleet of the lines that were read, and the kind of the last one.
type fleetReader struct {
	fleet api.Fleet
	kind  int
}

// read says whether a line has one of the forms, and is not too late.
func (r *fleetReader) read(line string) bool {
	words := basic.Words(line)
	if len(words) == 0 {
		return false
	}
	switch words[0] {
	case "station":
		return r.comes(stationLine) && r.station(words)
	case "class":
		return r.comes(classLine) && r.class(words)
	case "vehicle":
		return r.comes(vehicleLine) && r.vehicle(words)
	case "plate":
		return r.comes(plateLine) && r.plate(words)
	}
	return false
}

// comes says whether a line of a kind can come now.
func (r *fleetReader) comes(kind int) bool {
	if kind < r.kind {
		return false
	}
	r.kind = kind
	return true
}

func (r *fleetReader) station(words []string) bool {
	s := api.Station{}
	if len(words) != 2+len(s.Hours) {
		return false
	}
	s.Key = words[1]
	for day := range s.Hours {
		hours, ok := readHours(words[2+day])
		if !ok {
			return false
		}
		s.Hours[day] = hours
	}
	r.fleet.Stations = append(r.fleet.Stations, s)
	return true
}

func readHours(word string) (api.Window, bool) {
	first, second, _ := strings.Cut(word, "-")
	from, ok := basic.Natural(first)
	if !ok {
		return api.Window{}, false
	}
	to, ok := basic.Natural(second)
	if !ok {
		return api.Window{}, false
	}
	return api.Window{From: from, To: to}, true
}

func (r *fleetReader) class(words []string) bool {
	if len(words) != 3 {
		return false
	}
	up := words[2]
	if up == none {
		up = ""
	}
	r.fleet.Classes = append(r.fleet.Classes, api.Class{Key: words[1], Up: up})
	return true
}

func (r *fleetReader) vehicle(words []string) bool {
	if len(words) != 3 {
		return false
	}
	r.fleet.Vehicles = append(r.fleet.Vehicles, api.Vehicle{Key: words[1], Class: words[2]})
	return true
}

func (r *fleetReader) plate(words []string) bool {
	if len(words) != 4 {
		return false
	}
	from, ok := basic.Number(words[1])
	if ok {
		r.fleet.Plates = append(r.fleet.Plates, api.Plate{From: from, Vehicle: words[2], Plate: words[3]})
	}
	return ok
}

// Text writes a log.
func Text(f api.Fleet, l []api.Event) (string, api.Errno) {
	if e := Check(f, l); e != api.OK {
		return "", e
	}
	var lines basic.Writer
	for _, v := range l {
		words := []string{strconv.Itoa(v.At), v.Vehicle, basic.EventWord(v.Kind), v.Station}
		if v.Kind == api.EventLeave {
			words = append(words, v.To)
		}
		lines.Line(words...)
	}
	return lines.Whole()
}

// Read reads a log.
func Read(f api.Fleet, text string) ([]api.Event, int, api.Errno) {
	if e := CheckFleet(f); e != api.OK {
		return nil, 0, e
	}
	return basic.List(text, readEvent, func(l []api.Event) api.Errno { return Check(f, l) })
}

func readEvent(words []string) (api.Event, bool) {
	if len(words) < 4 {
		return api.Event{}, false
	}
	at, ok := basic.Number(words[0])
	if !ok {
		return api.Event{}, false
	}
	v := api.Event{At: at, Vehicle: words[1], Kind: basic.EventKind(words[2]), Station: words[3]}
	rest := words[4:]
	if v.Kind == api.EventLeave && len(rest) == 1 {
		v.To, rest = rest[0], nil
	} else if v.Kind == api.EventLeave {
		return api.Event{}, false
	}
	return v, v.Kind != 0 && len(rest) == 0
}
