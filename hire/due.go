package hire

import (
	"slices"

	"forecourt/api"
	"forecourt/basic"
	"forecourt/tariff"
)

// Greatest numbers of a deal.
const (
	maxFree = 10_000
	maxUnit = 100_000 // cents of a kilometre, or of an eighth
)

// CheckDeal says whether a deal is right.
func CheckDeal(d api.Deal) api.Errno {
	ranges := [...]struct{ n, most int }{
		{d.Free, maxFree},
		{d.Km, maxUnit},
		{d.Eighth, maxUnit},
		{d.Grace, api.DayLong},
		{d.Hour, api.MaxRate},
		{d.Day, api.MaxRate},
		{d.Deposit, api.MaxRate},
	}
	for _, r := range ranges {
		if !basic.Within(r.n, 0, r.most) {
			return api.ErrArg
		}
	}
	return api.OK
}

// Km is how many kilometres a hire went.
func Km(h api.Hire) (int, api.Errno) {
	if e := checkEnded(h); e != api.OK {
		return 0, e
	}
	return sumOf(h, kmOf), api.OK
}

// Missing is how many eighths of fuel are missing.
func Missing(h api.Hire) (int, api.Errno) {
	if e := checkEnded(h); e != api.OK {
		return 0, e
	}
	return sumOf(h, missingOf), api.OK
}

// checkEnded says whether a hire is right, and not open.
func checkEnded(h api.Hire) api.Errno {
	if e := Check(h); e != api.OK {
		return e
	}
	if isOpen(h) {
		return api.ErrState
	}
	return api.OK
}

// sumOf adds up what the legs of a hire have.
func sumOf(h api.Hire, of func(l api.Leg) int) int {
	sum := 0
	for _, l := range h.Legs {
		sum += of(l)
	}
	return sum
}

// kmOf is how far a vehicle went in a leg. A meter begins with 0 again behind its greatest number.
func kmOf(l api.Leg) int {
	const round = api.MaxMeter + 1
	return (l.In.Meter - l.Out.Meter + round) % round
}

func missingOf(l api.Leg) int { return max(0, l.Out.Fuel-l.In.Fuel) }

// Late is how late a hire was, and what is due for it.
func Late(d api.Deal, h api.Hire) (int, int, api.Errno) {
	if e := CheckDeal(d); e != api.OK {
		return 0, 0, e
	}
	if e := checkEnded(h); e != api.OK {
		return 0, 0, e
	}
	minutes := lateness(h)
	return minutes, lateCents(d, minutes), api.OK
}

// lateness is by how many minutes a hire that is not open was late.
func lateness(h api.Hire) int { return max(0, lastOf(h).In.At-h.Time.To) }

// lateCents is what is due for so many minutes.
func lateCents(d api.Deal, minutes int) int {
	if minutes <= d.Grace {
		return 0
	}
	return min(d.Hour*basic.Begun(minutes, basic.HourLong), d.Day*basic.Begun(minutes, api.DayLong))
}

// Bill adds what is due in the end.
func Bill(d api.Deal, h api.Hire, l []api.Line) ([]api.Line, api.Errno) {
	if e := checkBill(d, h, l); e != api.OK {
		return nil, e
	}
	lines := slices.Clone(l)
	add := func(key string, cents int) {
		if cents != 0 {
			lines = append(lines, api.Line{Kind: api.LineOther, Key: key, Cents: cents})
		}
	}
	add("late", lateCents(d, lateness(h)))
	add("distance", distanceCents(d, h))
	add("fuel", d.Eighth*sumOf(h, missingOf))
	if e := tariff.CheckLines(lines); e != api.OK {
		return nil, e
	}
	return lines, api.OK
}

func checkBill(d api.Deal, h api.Hire, l []api.Line) api.Errno {
	if e := CheckDeal(d); e != api.OK {
		return e
	}
	if e := Check(h); e != api.OK {
		return e
	}
	if e := tariff.CheckLines(l); e != api.OK {
		return e
	}
	if isOpen(h) {
		return api.ErrState
	}
	return api.OK
}

// distanceCents is what is due for the kilometres that are not free.
func distanceCents(d api.Deal, h api.Hire) int {
	days, _ := tariff.Days(h.Time)
	return d.Km * max(0, sumOf(h, kmOf)-d.Free*days)
}

// Settle is what is given back, and what is still due.
func Settle(d api.Deal, l []api.Line, paid int) (int, int, api.Errno) {
	if e := CheckDeal(d); e != api.OK {
		return 0, 0, e
	}
	total, e := tariff.Total(l)
	if e != api.OK {
		return 0, 0, e
	}
	if !basic.Within(paid, 0, api.MaxCents) {
		return 0, 0, api.ErrArg
	}
	left := paid + d.Deposit - total
	return max(0, left), max(0, -left), api.OK
}
