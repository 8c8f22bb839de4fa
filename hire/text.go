package hire

import (
	"slices"
	"strconv"

	"forecourt/api"
	"forecourt/basic"
)

// Events returns what a hire says to the log.
func Events(h api.Hire) ([]api.Event, api.Errno) {
	if e := Check(h); e != api.OK {
		return nil, e
	}
	var events []api.Event
	add := func(kind int, vehicle string, r api.Reading) {
		events = append(events, api.Event{At: r.At, Vehicle: vehicle, Station: r.Station, Kind: kind})
	}
	for _, l := range h.Legs {
		add(api.EventOut, l.Vehicle, l.Out)
		if !isOut(l) {
			add(api.EventBack, l.Vehicle, l.In)
		}
	}
	slices.SortFunc(events, basic.CompareEvents)
	return events, api.OK
}

// Words with which lines begin.
const (
	hireWord = "hire"
	legWord  = "leg"
)

// Text writes a hire.
func Text(h api.Hire) (string, api.Errno) {
	if e := Check(h); e != api.OK {
		return "", e
	}
	var lines basic.Writer
	lines.Line(append([]string{hireWord, h.Key, h.Driver}, basic.Decimals(h.Time.From, h.Time.To)...)...)
	for _, l := range h.Legs {
		words := append([]string{legWord, l.Vehicle}, readingWords(l.Out)...)
		if !isOut(l) {
			words = append(words, readingWords(l.In)...)
		}
		lines.Line(words...)
	}
	return lines.Whole()
}

func readingWords(r api.Reading) []string {
	return []string{strconv.Itoa(r.At), r.Station, strconv.Itoa(r.Meter), strconv.Itoa(r.Fuel)}
}

// readingLong is how many words a reading has.
const readingLong = 4

// Read reads a hire.
func Read(text string) (api.Hire, int, api.Errno) {
	var h api.Hire
	read := func(words []string) bool { return readHire(&h, words) }
	line, e := basic.Lines(text, func(line string) bool {
		ok := read(basic.Words(line))
		// All lines behind the first one are legs.
		read = func(words []string) bool { return readLeg(&h, words) }
		return ok
	})
	if e == api.OK && text == "" {
		e = api.ErrSyntax
	}
	if e != api.OK {
		return api.Hire{}, line, e
	}
	h, e = right(h)
	return h, 0, e
}

func readHire(h *api.Hire, words []string) bool {
	if len(words) != 5 || words[0] != hireWord {
		return false
	}
	h.Key, h.Driver = words[1], words[2]
	return basic.Numbers(words[3:], &h.Time.From, &h.Time.To)
}

// readLeg reads a leg, and adds it to a hire.
func readLeg(h *api.Hire, words []string) bool {
	if len(words) < 2 || words[0] != legWord {
		return false
	}
	leg := openLeg(words[1], api.Reading{})
	readings := words[2:]
	if len(readings) == 2*readingLong {
		if !readReading(&leg.In, readings[readingLong:]) {
			return false
		}
		readings = readings[:readingLong]
	}
	if !readReading(&leg.Out, readings) {
		return false
	}
	h.Legs = append(h.Legs, leg)
	return true
}

func readReading(r *api.Reading, words []string) bool {
	if len(words) != readingLong {
		return false
	}
	r.Station = words[1]
	return basic.Numbers([]string{words[0], words[2], words[3]}, &r.At, &r.Meter, &r.Fuel)
}
