package hire_test

import (
	"math/rand"
	"strings"
	"testing"

	"forecourt/api"
	"forecourt/hire"
	"forecourt/lot"
)

func event(at int, vehicle, station string, kind int) api.Event {
	return api.Event{At: at, Vehicle: vehicle, Station: station, Kind: kind}
}

// P4.5
func TestEvents(t *testing.T) {
	first := []api.Event{
		event(100, "v1", "s1", api.EventOut),
		event(200, "v1", "s2", api.EventBack), event(200, "v2", "s2", api.EventOut),
		// v1 is before v2, though it is out behind it.
		event(300, "v1", "s1", api.EventOut), event(300, "v2", "s1", api.EventBack),
	}
	l, e := hire.Events(open())
	same(t, "open", l, first)
	is(t, "open", e, api.OK)
	l, e = hire.Events(ended())
	same(t, "ended", l, append(first, event(1540, "v1", "s3", api.EventBack)))
	is(t, "ended", e, api.OK)
	l, e = hire.Events(badHire())
	same(t, "wrong", l, nil)
	is(t, "wrong", e, badHireError)
}

// P4.5: a log of chapter 1 takes the events of a hire, and has its legs as trips.
func TestEventsOfLog(t *testing.T) {
	r := rand.New(rand.NewSource(15))
	f := api.Fleet{
		Stations: []api.Station{{Key: "s1"}},
		Classes:  []api.Class{{Key: "mini"}},
		Vehicles: []api.Vehicle{{Key: "v1", Class: "mini"}, {Key: "v2", Class: "mini"}, {Key: "v3", Class: "mini"}, {Key: "v4", Class: "mini"}},
	}
	for range 200 {
		h := someHire(r, "h1", 300)
		if h.Time.From == 0 {
			continue // its vehicle could not enter before it
		}
		var log []api.Event
		for _, v := range f.Vehicles {
			log = append(log, event(0, v.Key, "s1", api.EventEnter))
		}
		trips := map[string][]api.Trip{}
		for i := range h.Legs {
			leg := &h.Legs[i]
			leg.Out.Station = "s1"
			trip := api.Trip{From: leg.Out.At, To: leg.In.At, A: "s1"}
			if leg.In.At != -1 {
				leg.In.Station, trip.B = "s1", "s1"
			}
			trips[leg.Vehicle] = append(trips[leg.Vehicle], trip)
		}
		events, e := hire.Events(h)
		is(t, "events", e, api.OK)
		log = append(log, events...)
		broken, e := lot.Broken(f, log)
		same(t, "broken", broken, nil)
		is(t, "broken", e, api.OK)
		for _, v := range f.Vehicles {
			got, _ := lot.Trips(f, log, v.Key)
			same(t, "trips", got, trips[v.Key])
		}
	}
}

const (
	openText = `hire h1 ann 100 1540
leg v1 100 s1 999990 8 200 s2 5 4
leg v2 200 s2 100 7 300 s1 160 8
leg v1 300 s1 20 5
`
	endedText = `hire h1 ann 100 1540
leg v1 100 s1 999990 8 200 s2 5 4
leg v2 200 s2 100 7 300 s1 160 8
leg v1 300 s1 20 5 1540 s3 45 3
`
)

// P4.5
func TestText(t *testing.T) {
	s, e := hire.Text(open())
	is(t, "open", s, openText)
	is(t, "open", e, api.OK)
	s, e = hire.Text(ended())
	is(t, "ended", s, endedText)
	is(t, "ended", e, api.OK)
	s, e = hire.Text(badHire())
	is(t, "wrong", s, "")
	is(t, "wrong", e, badHireError)
	h := longHire(api.MaxLegs)
	s, e = hire.Text(h)
	is(t, "MaxLegs", strings.Count(s, "\n"), 1+api.MaxLegs)
	is(t, "MaxLegs", e, api.OK)
	back, _, e := hire.Read(s)
	sameHire(t, "MaxLegs", back, h)
	is(t, "MaxLegs", e, api.OK)
}

// P4.5
func TestRead(t *testing.T) {
	const first, leg = "hire h1 ann 100 1540\n", "leg v1 100 s1 20 5\n"
	brief := one("h1", "ann", "v1", 100, 1540, -1)
	brief.Legs[0].Out = reading(100, "s1", 20, 5)
	cases := []struct {
		what string
		text string
		want api.Hire
		line int
		e    api.Errno
	}{
		{"open", openText, open(), 0, api.OK},
		{"ended", endedText, ended(), 0, api.OK},
		{"one leg", first + leg, brief, 0, api.OK},
		{"empty", "", api.Hire{}, 0, api.ErrSyntax},
		{"an empty line", "\n", api.Hire{}, 0, api.ErrSyntax},
		{"an empty line at the end", first + leg + "\n", api.Hire{}, 2, api.ErrSyntax},
		{"not ended", first + leg[:len(leg)-1], api.Hire{}, 1, api.ErrSyntax},
		{"first line not ended", first[:len(first)-1], api.Hire{}, 0, api.ErrSyntax},
		{"a leg first", leg + first, api.Hire{}, 0, api.ErrSyntax},
		{"two hires", first + first + leg, api.Hire{}, 1, api.ErrSyntax},
		{"a hire at the end", first + leg + first, api.Hire{}, 2, api.ErrSyntax},
		{"four words in the first line", "hire h1 ann 100\n" + leg, api.Hire{}, 0, api.ErrSyntax},
		{"one word in the first line", "hire\n" + leg, api.Hire{}, 0, api.ErrSyntax},
		{"six words in the first line", "hire h1 ann 100 1540 5\n" + leg, api.Hire{}, 0, api.ErrSyntax},
		{"another first word", "hired h1 ann 100 1540\n" + leg, api.Hire{}, 0, api.ErrSyntax},
		{"first line is no number", "hire h1 ann 100 x\n" + leg, api.Hire{}, 0, api.ErrSyntax},
		{"first line is no number either", "hire h1 ann x 1540\n" + leg, api.Hire{}, 0, api.ErrSyntax},
		{"another word for a leg", first + "legs v1 100 s1 20 5\n", api.Hire{}, 1, api.ErrSyntax},
		{"a leg of one word", first + "leg\n", api.Hire{}, 1, api.ErrSyntax},
		{"a leg of two words", first + "leg v1\n", api.Hire{}, 1, api.ErrSyntax},
		{"a leg of five words", first + "leg v1 100 s1 20\n", api.Hire{}, 1, api.ErrSyntax},
		{"a leg of seven words", first + "leg v1 100 s1 20 5 200\n", api.Hire{}, 1, api.ErrSyntax},
		{"a leg of nine words", first + "leg v1 100 s1 20 5 200 s1 20\n", api.Hire{}, 1, api.ErrSyntax},
		{"a leg of eleven words", first + "leg v1 100 s1 20 5 200 s1 20 5 6\n", api.Hire{}, 1, api.ErrSyntax},
		{"two blanks", first + "leg v1 100 s1 20  5\n", api.Hire{}, 1, api.ErrSyntax},
		{"a blank at the end", first + "leg v1 100 s1 20 5 \n", api.Hire{}, 1, api.ErrSyntax},
		{"a blank before", " " + first + leg, api.Hire{}, 0, api.ErrSyntax},
		{"an empty word for the vehicle", first + "leg  100 s1 20 5\n", api.Hire{}, 1, api.ErrSyntax},
		{"an empty word for the station", first + "leg v1 100  20 5\n", api.Hire{}, 1, api.ErrSyntax},
		{"a carriage return", first + "leg v1 100 s1 20 5\r\n", api.Hire{}, 1, api.ErrSyntax},
		{"At is no number", first + "leg v1 x s1 20 5\n", api.Hire{}, 1, api.ErrSyntax},
		{"Meter is no number", first + "leg v1 100 s1 020 5\n", api.Hire{}, 1, api.ErrSyntax},
		{"Fuel is no number", first + "leg v1 100 s1 20 +5\n", api.Hire{}, 1, api.ErrSyntax},
		{"In.At is no number", first + "leg v1 100 s1 20 5 x s1 20 5\n", api.Hire{}, 1, api.ErrSyntax},
		{"In.Meter is no number", first + "leg v1 100 s1 20 5 200 s1 -0 5\n", api.Hire{}, 1, api.ErrSyntax},
		{"In.Fuel is no number", first + "leg v1 100 s1 20 5 200 s1 20 1000000000\n", api.Hire{}, 1, api.ErrSyntax},
		{"Out of two readings is no number", first + "leg v1 100 s1 x 5 200 s1 20 5\n", api.Hire{}, 1, api.ErrSyntax},
		{"the first such line", first + leg + leg + "x\ny\n", api.Hire{}, 3, api.ErrSyntax},
		{"syntax before what is wrong", "hire H1 ann 100 1540\n" + leg + "x\n", api.Hire{}, 2, api.ErrSyntax},
		{"syntax before too many", first + strings.Repeat(leg, api.MaxLegs+1) + "x\n", api.Hire{}, api.MaxLegs + 2, api.ErrSyntax},
		{"no legs", first, api.Hire{}, 0, api.ErrForm},
		{"too many", first + strings.Repeat(leg, api.MaxLegs+1), api.Hire{}, 0, api.ErrLarge},
		{"no key", "hire H1 ann 100 1540\n" + leg, api.Hire{}, 0, api.ErrName},
		{"driver is no key", "hire h1 a\tb 100 1540\n" + leg, api.Hire{}, 0, api.ErrName},
		{"no time", "hire h1 ann 100 100\n" + leg, api.Hire{}, 0, api.ErrArg},
		{"time below 0", "hire h1 ann -100 1540\n" + leg, api.Hire{}, 0, api.ErrArg},
		{"nine digits", first + "leg v1 100 s1 999999999 5\n", api.Hire{}, 0, api.ErrArg},
		{"not when it begins", first + "leg v1 101 s1 20 5\n", api.Hire{}, 0, api.ErrOrder},
		{"not the last leg", first + leg + leg, api.Hire{}, 0, api.ErrState},
		{"nine words for one that is out", first + "leg v1 100 s1 20 5 -1 s1 0 0\n", api.Hire{}, 0, api.ErrForm},
		{"MaxText bytes", strings.Repeat("\n", api.MaxText), api.Hire{}, 0, api.ErrSyntax},
		{"more", strings.Repeat("\n", api.MaxText+1), api.Hire{}, 0, api.ErrLarge},
	}
	for _, c := range cases {
		h, line, e := hire.Read(c.text)
		sameHire(t, c.what, h, c.want)
		is(t, c.what, line, c.line)
		is(t, c.what, e, c.e)
	}
}

// P4.5: the fields are in their order.
func TestReadFields(t *testing.T) {
	h, _, e := hire.Read("hire a b 1 9\nleg c 1 d 2 3 4 e 5 6\n")
	want := api.Hire{Key: "a", Driver: "b", Time: api.Window{From: 1, To: 9}, Legs: []api.Leg{{
		Vehicle: "c", Out: api.Reading{At: 1, Station: "d", Meter: 2, Fuel: 3}, In: api.Reading{At: 4, Station: "e", Meter: 5, Fuel: 6},
	}}}
	sameHire(t, "fields", h, want)
	is(t, "fields", e, api.OK)
}

// P4.5, Z10: what is written is read to the same, and what is read is written to the same.
func TestTextsAtRandom(t *testing.T) {
	r := rand.New(rand.NewSource(16))
	for range 300 {
		h := someHire(r, "h1", 5000)
		text, e := hire.Text(h)
		is(t, "hire", e, api.OK)
		back, _, e := hire.Read(text)
		sameHire(t, "hire", back, h)
		is(t, "hire", e, api.OK)
	}
	const signs = "0159-- \nvsleg"
	count := 0
	for range 40_000 {
		text := []string{openText, endedText}[r.Intn(2)]
		at, sign := r.Intn(len(text)), string(signs[r.Intn(len(signs))])
		spoilt := []string{text[:at] + sign + text[at+1:], text[:at] + sign + text[at:], text[:at] + text[at+1:]}[r.Intn(3)]
		if h, _, e := hire.Read(spoilt); e == api.OK {
			text, _ := hire.Text(h)
			is(t, "spoilt", text, spoilt)
			count++
		}
	}
	if count < 1000 {
		t.Errorf("only %d spoilt texts could be read", count)
	}
}
