package hire_test

import (
	"testing"

	"forecourt/api"
	"forecourt/hire"
)

// readingFaults are what can be wrong with a reading of a hire.
func readingFaults(what string, of func(h *api.Hire) *api.Reading) []fault[api.Hire] {
	at := func(n int) func(h *api.Hire) { return func(h *api.Hire) { of(h).At = n } }
	station := func(s string) func(h *api.Hire) { return func(h *api.Hire) { of(h).Station = s } }
	meter := func(n int) func(h *api.Hire) { return func(h *api.Hire) { of(h).Meter = n } }
	fuel := func(n int) func(h *api.Hire) { return func(h *api.Hire) { of(h).Fuel = n } }
	return []fault[api.Hire]{
		{what + " at End", at(api.End), api.ErrArg},
		{what + " at -2", at(-2), api.ErrArg},
		{what + " at the least int", at(least), api.ErrArg},
		{what + " at the greatest int", at(greatest), api.ErrArg},
		{what + " without a station", station(""), api.ErrName},
		{what + " at S", station("S"), api.ErrName},
		{what + " at a longer key", station(longerKey), api.ErrName},
		{what + " with a meter below 0", meter(-1), api.ErrArg},
		{what + " with a greater meter", meter(api.MaxMeter + 1), api.ErrArg},
		{what + " with the least meter", meter(least), api.ErrArg},
		{what + " with fuel below 0", fuel(-1), api.ErrArg},
		{what + " with more fuel", fuel(api.MaxFuel + 1), api.ErrArg},
		{what + " with the most fuel", fuel(greatest), api.ErrArg},
	}
}

// hireFaults are those of a hire before its legs are looked at.
func hireFaults() []fault[api.Hire] {
	return []fault[api.Hire]{
		{"no key", func(h *api.Hire) { h.Key = "" }, api.ErrName},
		{"longer key", func(h *api.Hire) { h.Key = longerKey }, api.ErrName},
		{"no driver", func(h *api.Hire) { h.Driver = "" }, api.ErrName},
		{"driver Ann", func(h *api.Hire) { h.Driver = "Ann" }, api.ErrName},
		{"from -1", func(h *api.Hire) { h.Time.From = -1 }, api.ErrArg},
		{"from the least int", func(h *api.Hire) { h.Time.From = least }, api.ErrArg},
		{"to its from", func(h *api.Hire) { h.Time.To = h.Time.From }, api.ErrArg},
		{"to End", func(h *api.Hire) { h.Time.To = api.End }, api.ErrArg},
		{"to the greatest int", func(h *api.Hire) { h.Time.To = greatest }, api.ErrArg},
		{"too many days", func(h *api.Hire) { h.Time.To = h.Time.From + api.MaxDays*api.DayLong + 1 }, api.ErrLarge},
	}
}

// legFaults are those of the leg with a number; it is not the first one.
func legFaults(number int) []fault[api.Hire] {
	leg := func(h *api.Hire) *api.Leg { return &h.Legs[number] }
	faults := []fault[api.Hire]{
		{"no vehicle", func(h *api.Hire) { leg(h).Vehicle = "" }, api.ErrName},
		{"vehicle V", func(h *api.Hire) { leg(h).Vehicle = "V" }, api.ErrName},
		{"out at -1", func(h *api.Hire) { leg(h).Out.At = -1 }, api.ErrArg},
	}
	faults = append(faults, readingFaults("out", func(h *api.Hire) *api.Reading { return &leg(h).Out })...)
	return append(faults,
		fault[api.Hire]{"out before the one before is in", func(h *api.Hire) { leg(h).Out.At = h.Legs[number-1].In.At - 1 }, api.ErrOrder},
		fault[api.Hire]{"out later than the one before is in", func(h *api.Hire) { leg(h).Out.At = h.Legs[number-1].In.At + 1 }, api.ErrOrder},
		fault[api.Hire]{"the vehicle of the one before", func(h *api.Hire) { leg(h).Vehicle = h.Legs[number-1].Vehicle }, api.ErrRule},
		fault[api.Hire]{"another station", func(h *api.Hire) { leg(h).Out.Station = "s9" }, api.ErrNone},
	)
}

// P4.1
func TestCheckInOrder(t *testing.T) {
	first := func(h *api.Hire) *api.Leg { return &h.Legs[0] }
	faults := append(hireFaults(),
		fault[api.Hire]{"no vehicle at first", func(h *api.Hire) { first(h).Vehicle = "" }, api.ErrName},
		fault[api.Hire]{"first out at -1", func(h *api.Hire) { first(h).Out.At = -1 }, api.ErrArg},
	)
	faults = append(faults, readingFaults("first out", func(h *api.Hire) *api.Reading { return &first(h).Out })...)
	faults = append(faults,
		fault[api.Hire]{"first out before the time", func(h *api.Hire) { first(h).Out.At = h.Time.From - 1 }, api.ErrOrder},
		fault[api.Hire]{"first out later than the time", func(h *api.Hire) { first(h).Out.At = h.Time.From + 1 }, api.ErrOrder},
	)
	faults = append(faults, readingFaults("first in", func(h *api.Hire) *api.Reading { return &first(h).In })...)
	faults = append(faults,
		fault[api.Hire]{"first in when it is out", func(h *api.Hire) { first(h).In.At = 100 }, api.ErrOrder},
		fault[api.Hire]{"first in before it is out", func(h *api.Hire) { first(h).In.At = 99 }, api.ErrOrder},
	)
	faults = append(faults, legFaults(1)...)
	faults = append(faults, readingFaults("in", func(h *api.Hire) *api.Reading { return &h.Legs[1].In })...)
	faults = append(faults, fault[api.Hire]{"in when it is out", func(h *api.Hire) { h.Legs[1].In.At = 200 }, api.ErrOrder})
	faults = append(faults, legFaults(2)...)
	inOrder(t, open, hire.Check, faults)
	inOrder(t, ended, hire.Check, append(faults, readingFaults("last in", func(h *api.Hire) *api.Reading { return &h.Legs[2].In })...))
}

// P4.1: an In.At of -1.
func TestCheckOut(t *testing.T) {
	in := func(number int, r api.Reading) func(h *api.Hire) {
		return func(h *api.Hire) { h.Legs[number].In = r }
	}
	outFaults := func(number int) []fault[api.Hire] {
		return []fault[api.Hire]{
			{"out with a station", in(number, api.Reading{At: -1, Station: "s1"}), api.ErrForm},
			{"out with what is no key", in(number, api.Reading{At: -1, Station: "S"}), api.ErrForm},
			{"out with a meter", in(number, api.Reading{At: -1, Meter: 1}), api.ErrForm},
			{"out with a wrong meter", in(number, api.Reading{At: -1, Meter: -1}), api.ErrForm},
			{"out with fuel", in(number, api.Reading{At: -1, Fuel: 1}), api.ErrForm},
		}
	}
	stillOut := func(number int) fault[api.Hire] {
		return fault[api.Hire]{"out, and others behind it", in(number, out), api.ErrState}
	}
	faults := append(legFaults(1), outFaults(1)...)
	faults = append(faults, stillOut(1))
	faults = append(faults, legFaults(2)...)
	faults = append(faults, outFaults(2)...)
	inOrder(t, open, hire.Check, faults)
	inOrder(t, open, hire.Check, append(outFaults(0), stillOut(0), legFaults(1)[0]))
}

// P4.1
func TestCheckLegs(t *testing.T) {
	without := func() api.Hire {
		h := open()
		h.Legs = nil
		return h
	}
	is(t, "no legs", hire.Check(without()), api.ErrForm)
	is(t, "one leg", hire.Check(one("h1", "ann", "v1", 100, 200, -1)), api.OK)
	is(t, "MaxLegs", hire.Check(longHire(api.MaxLegs)), api.OK)
	is(t, "more", hire.Check(longHire(api.MaxLegs+1)), api.ErrLarge)
	for _, f := range hireFaults() {
		h, large := without(), longHire(api.MaxLegs+1)
		f.change(&h)
		f.change(&large)
		is(t, f.what+", no legs", hire.Check(h), f.want)
		is(t, f.what+", more legs", hire.Check(large), f.want)
	}
	wrong := longHire(api.MaxLegs + 1)
	wrong.Legs[0].Vehicle = ""
	is(t, "more before wrong ones", hire.Check(wrong), api.ErrLarge)
}

// P4.1: the bounds that are right.
func TestCheckBounds(t *testing.T) {
	h := api.Hire{Key: longKey, Driver: longKey, Time: api.Window{From: 0, To: api.MaxDays * api.DayLong}}
	h.Legs = []api.Leg{
		{Vehicle: longKey, Out: reading(0, longKey, 0, 0), In: reading(1, "s", api.MaxMeter, api.MaxFuel)},
		{Vehicle: "v", Out: reading(1, "s", api.MaxMeter, api.MaxFuel), In: reading(api.End-1, longKey, 0, 0)},
	}
	is(t, "bounds", hire.Check(h), api.OK)
	is(t, "ends before it was agreed", hire.Check(one("h1", "ann", "v1", 100, 200, 101)), api.OK)
	is(t, "ends later", hire.Check(one("h1", "ann", "v1", 100, 200, 5000)), api.OK)
	is(t, "the last moments", hire.Check(one("h1", "ann", "v1", api.End-2, api.End-1, api.End-1)), api.OK)
}

// P4.1
func TestStart(t *testing.T) {
	w := api.Window{From: 100, To: 1540}
	r := reading(100, "s1", 999_990, 8)
	h, e := hire.Start("h1", "ann", w, "v1", r)
	sameHire(t, "ordinary", h, api.Hire{Key: "h1", Driver: "ann", Time: w, Legs: []api.Leg{{Vehicle: "v1", Out: r, In: api.Reading{At: -1}}}})
	is(t, "ordinary", e, api.OK)
	cases := []struct {
		what        string
		key, driver string
		w           api.Window
		vehicle     string
		out         api.Reading
		want        api.Errno
	}{
		{"key", "", "ann", w, "v1", r, api.ErrName},
		{"driver", "h1", "", w, "v1", r, api.ErrName},
		{"time", "h1", "ann", api.Window{From: 100, To: 100}, "", r, api.ErrArg},
		{"long time", "h1", "ann", api.Window{From: 100, To: 1_000_000}, "", r, api.ErrLarge},
		{"vehicle", "h1", "ann", w, "", reading(99, "s1", 1, 1), api.ErrName},
		{"reading", "h1", "ann", w, "v1", reading(99, "s1", 1, 9), api.ErrArg},
		{"before", "h1", "ann", w, "v1", reading(99, "s1", 1, 1), api.ErrOrder},
		{"later", "h1", "ann", w, "v1", reading(101, "s1", 1, 1), api.ErrOrder},
	}
	for _, c := range cases {
		h, e := hire.Start(c.key, c.driver, c.w, c.vehicle, c.out)
		is(t, c.what, e, c.want)
		is(t, c.what, isNone(h), true)
	}
}

// P4.1
func TestExchange(t *testing.T) {
	in, next := reading(400, "s2", 30, 2), reading(400, "s2", 7, 6)
	h, e := hire.Exchange(open(), in, "v3", next)
	want := open()
	want.Legs[2].In = in
	want.Legs = append(want.Legs, api.Leg{Vehicle: "v3", Out: next, In: api.Reading{At: -1}})
	sameHire(t, "ordinary", h, want)
	is(t, "ordinary", e, api.OK)
	h, e = hire.Exchange(longHire(api.MaxLegs-1), reading(50, "s1", 1, 1), "v9", reading(50, "s1", 1, 1))
	is(t, "MaxLegs", len(h.Legs), api.MaxLegs)
	is(t, "MaxLegs", e, api.OK)
	cases := []struct {
		what    string
		h       api.Hire
		in      api.Reading
		vehicle string
		next    api.Reading
		want    api.Errno
	}{
		{"wrong", badHire(), in, "v3", next, badHireError},
		{"not open", ended(), in, "", next, api.ErrState},
		{"too many", longHire(api.MaxLegs), reading(50, "s1", 1, 1), "v9", reading(50, "s1", 1, 1), api.ErrLarge},
		{"no moment", open(), reading(api.End, "s2", 1, 1), "", next, api.ErrArg},
		{"in too early", open(), reading(300, "s2", 1, 1), "", next, api.ErrOrder},
		{"not in", open(), out, "v3", next, api.ErrState},
		{"not in, but with a station", open(), api.Reading{At: -1, Station: "s2"}, "v3", next, api.ErrForm},
		{"vehicle", open(), in, "", next, api.ErrName},
		{"out", open(), in, "v3", reading(400, "s2", -1, 1), api.ErrArg},
		{"out later", open(), in, "v1", reading(401, "s3", 1, 1), api.ErrOrder},
		{"the same vehicle", open(), in, "v1", reading(400, "s3", 1, 1), api.ErrRule},
		{"at another station", open(), in, "v3", reading(400, "s3", 1, 1), api.ErrNone},
	}
	for _, c := range cases {
		h, e := hire.Exchange(c.h, c.in, c.vehicle, c.next)
		is(t, c.what, e, c.want)
		is(t, c.what, isNone(h), true)
	}
}

// P4.1
func TestExtend(t *testing.T) {
	for _, to := range []int{101, 1540, 1541, 100 + api.MaxDays*api.DayLong} {
		h, e := hire.Extend(open(), to)
		want := open()
		want.Time.To = to
		sameHire(t, "ordinary", h, want)
		is(t, "ordinary", e, api.OK)
	}
	cases := []struct {
		what string
		h    api.Hire
		to   int
		want api.Errno
	}{
		{"wrong", badHire(), 5000, badHireError},
		{"not open", ended(), -1, api.ErrState},
		{"no time", open(), 100, api.ErrArg},
		{"before", open(), 99, api.ErrArg},
		{"least", open(), least, api.ErrArg},
		{"greatest", open(), greatest, api.ErrArg},
		{"too many days", open(), 101 + api.MaxDays*api.DayLong, api.ErrLarge},
	}
	for _, c := range cases {
		h, e := hire.Extend(c.h, c.to)
		is(t, c.what, e, c.want)
		is(t, c.what, isNone(h), true)
	}
}

// P4.1
func TestClose(t *testing.T) {
	h, e := hire.Close(open(), reading(1540, "s3", 45, 3))
	sameHire(t, "ordinary", h, ended())
	is(t, "ordinary", e, api.OK)
	h, e = hire.Close(open(), api.Reading{At: -1})
	sameHire(t, "stays open", h, open())
	is(t, "stays open", e, api.OK)
	cases := []struct {
		what string
		h    api.Hire
		in   api.Reading
		want api.Errno
	}{
		{"wrong", badHire(), reading(1540, "s3", 45, 3), badHireError},
		{"not open", ended(), reading(1540, "s3", 45, 3), api.ErrState},
		{"not open, and wrong", ended(), reading(-5, "", -1, -1), api.ErrState},
		{"stays open, but with fuel", open(), api.Reading{At: -1, Fuel: 1}, api.ErrForm},
		{"no moment", open(), reading(-2, "s3", 45, 3), api.ErrArg},
		{"station", open(), reading(300, "", 45, 3), api.ErrName},
		{"meter", open(), reading(300, "s3", api.MaxMeter+1, 3), api.ErrArg},
		{"fuel", open(), reading(300, "s3", 45, 9), api.ErrArg},
		{"too early", open(), reading(300, "s3", 45, 3), api.ErrOrder},
	}
	for _, c := range cases {
		h, e := hire.Close(c.h, c.in)
		is(t, c.what, e, c.want)
		is(t, c.what, isNone(h), true)
	}
}

// P4.1, Z2: a hire that comes of another one shares no memory with it, also where its list has room.
func TestChangedHireIsNew(t *testing.T) {
	h := open()
	h.Legs = append(h.Legs, api.Leg{Vehicle: "behind"})[:3]
	changes := map[string]func() (api.Hire, api.Errno){
		"Exchange": func() (api.Hire, api.Errno) {
			return hire.Exchange(h, reading(400, "s2", 30, 2), "v3", reading(400, "s2", 7, 6))
		},
		"Extend": func() (api.Hire, api.Errno) { return hire.Extend(h, 2000) },
		"Close":  func() (api.Hire, api.Errno) { return hire.Close(h, reading(1540, "s3", 45, 3)) },
	}
	for what, change := range changes {
		next, e := change()
		is(t, what, e, api.OK)
		next.Legs[0].Vehicle = "other"
		sameHire(t, what, h, open())
		is(t, what+": behind the list", h.Legs[:4][3].Vehicle, "behind")
	}
}
