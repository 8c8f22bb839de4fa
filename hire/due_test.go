package hire_test

import (
	"math/rand"
	"testing"

	"forecourt/api"
	"forecourt/hire"
	"forecourt/tariff"
)

// P4.1
func TestCheckDeal(t *testing.T) {
	is(t, "zero", hire.CheckDeal(api.Deal{}), api.OK)
	is(t, "the most", hire.CheckDeal(mostDeal()), api.OK)
	var d api.Deal
	fields := map[string]struct {
		field *int
		most  int
	}{
		"Free": {&d.Free, 10_000}, "Km": {&d.Km, 100_000}, "Eighth": {&d.Eighth, 100_000}, "Grace": {&d.Grace, api.DayLong},
		"Hour": {&d.Hour, api.MaxRate}, "Day": {&d.Day, api.MaxRate}, "Deposit": {&d.Deposit, api.MaxRate},
	}
	for what, f := range fields {
		for _, n := range []int{-1, f.most + 1, least, greatest} {
			d = mostDeal()
			*f.field = n
			is(t, what, hire.CheckDeal(d), api.ErrArg)
		}
	}
}

func mostDeal() api.Deal {
	return api.Deal{Free: 10_000, Km: 100_000, Eighth: 100_000, Grace: api.DayLong, Hour: api.MaxRate, Day: api.MaxRate, Deposit: api.MaxRate}
}

// badDeal is wrong; ErrArg is also what is wrong with its place.
func badDeal() api.Deal { return api.Deal{Km: -1} }

// read is a hire of one leg with what is read of the vehicle.
func read(meterOut, fuelOut, meterIn, fuelIn int) api.Hire {
	h := one("h1", "ann", "v1", 0, 1440, 1440)
	h.Legs[0].Out.Meter, h.Legs[0].Out.Fuel = meterOut, fuelOut
	h.Legs[0].In.Meter, h.Legs[0].In.Fuel = meterIn, fuelIn
	return h
}

// P4.2
func TestKm(t *testing.T) {
	cases := []struct {
		what string
		h    api.Hire
		want int
		e    api.Errno
	}{
		{"not moved", read(70, 1, 70, 1), 0, api.OK},
		{"moved", read(70, 1, 100, 1), 30, api.OK},
		{"as far as the meter goes", read(0, 1, api.MaxMeter, 1), api.MaxMeter, api.OK},
		{"to 0", read(api.MaxMeter, 1, 0, 1), 1, api.OK},
		{"the meter begins with 0 again", read(999_990, 1, 5, 1), 15, api.OK},
		{"nearly all around", read(5, 1, 4, 1), api.MaxMeter, api.OK},
		{"legs are added", ended(), 15 + 60 + 25, api.OK},
		{"open", open(), 0, api.ErrState},
		{"wrong", badHire(), 0, badHireError},
	}
	for _, c := range cases {
		n, e := hire.Km(c.h)
		is(t, c.what, n, c.want)
		is(t, c.what, e, c.e)
	}
}

// P4.2
func TestMissing(t *testing.T) {
	cases := []struct {
		what string
		h    api.Hire
		want int
		e    api.Errno
	}{
		{"as it was", read(1, 5, 1, 5), 0, api.OK},
		{"missing", read(1, 5, 1, 2), 3, api.OK},
		{"all", read(1, 8, 1, 0), 8, api.OK},
		{"more than before", read(1, 2, 1, 5), 0, api.OK},
		{"what is more does not count for other legs", ended(), 4 + 0 + 2, api.OK},
		{"open", open(), 0, api.ErrState},
		{"wrong", badHire(), 0, badHireError},
	}
	for _, c := range cases {
		n, e := hire.Missing(c.h)
		is(t, c.what, n, c.want)
		is(t, c.what, e, c.e)
	}
}

// P4.2
func TestLate(t *testing.T) {
	cases := []struct {
		what    string
		d       api.Deal
		minutes int
		cents   int
	}{
		{"in time", deal(), 0, 0},
		{"a minute", deal(), 1, 0},
		{"Grace", deal(), 30, 0},
		{"more than Grace", deal(), 31, 1000},
		{"an hour", deal(), 60, 1000},
		{"a begun hour", deal(), 61, 2000},
		{"five hours", deal(), 300, 5000},
		{"six hours are a day", deal(), 360, 5000},
		{"a day", deal(), 1440, 5000},
		{"a day and a minute", deal(), 1441, 10_000},
		{"hours cost less", api.Deal{Hour: 10, Day: 5000}, 1441, 250},
		{"days cost nothing", api.Deal{Hour: 10}, 1441, 0},
		{"hours cost nothing", api.Deal{Day: 10}, 1441, 0},
		{"no Grace", api.Deal{Hour: 10, Day: 5000}, 1, 10},
		{"a day of Grace", mostDeal(), 1440, 0},
		{"more than a day of Grace", mostDeal(), 1441, 2 * api.MaxRate},
	}
	for _, c := range cases {
		minutes, cents, e := hire.Late(c.d, one("h1", "ann", "v1", 0, 5000, 5000+c.minutes))
		is(t, c.what, minutes, c.minutes)
		is(t, c.what, cents, c.cents)
		is(t, c.what, e, api.OK)
	}
	minutes, cents, e := hire.Late(deal(), one("h1", "ann", "v1", 0, 5000, 4000))
	is(t, "early", minutes, 0)
	is(t, "early", cents, 0)
	is(t, "early", e, api.OK)
	swapped := ended()
	swapped.Time.To = 250
	minutes, cents, _ = hire.Late(deal(), swapped)
	is(t, "the last leg counts", minutes, 1290)
	is(t, "the last leg counts", cents, 5000)
	last := one("h1", "ann", "v1", 0, 1, api.End-1)
	minutes, cents, _ = hire.Late(mostDeal(), last)
	is(t, "the most", minutes, api.End-2)
	is(t, "the most", cents, 4001*api.MaxRate)
}

// P4.2
func TestLateErrors(t *testing.T) {
	cases := []struct {
		what string
		d    api.Deal
		h    api.Hire
		want api.Errno
	}{
		{"deal first", badDeal(), badHire(), api.ErrArg},
		{"hire", deal(), badHire(), badHireError},
		{"open", deal(), open(), api.ErrState},
		{"deal before open", badDeal(), open(), api.ErrArg},
	}
	for _, c := range cases {
		minutes, cents, e := hire.Late(c.d, c.h)
		is(t, c.what, minutes, 0)
		is(t, c.what, cents, 0)
		is(t, c.what, e, c.want)
	}
}

func line(kind int, key string, cents int) api.Line {
	return api.Line{Kind: kind, Key: key, Cents: cents}
}

func other(key string, cents int) api.Line { return line(api.LineOther, key, cents) }

// P4.2
func TestBill(t *testing.T) {
	quoted := []api.Line{line(api.LinePiece, "day", 500), line(api.LineTax, "vat", 100)}
	// 31 minutes late, 215 kilometres, 4 eighths missing; one rental day.
	full := one("h1", "ann", "v1", 100, 1540, 1571)
	full.Legs[0].Out.Fuel, full.Legs[0].In.Fuel, full.Legs[0].In.Meter = 8, 4, 215
	change := func(f func(h *api.Hire)) api.Hire {
		h := full
		h.Legs = append([]api.Leg(nil), full.Legs...)
		f(&h)
		return h
	}
	late, distance, fuel := other("late", 1000), other("distance", 230), other("fuel", 1200)
	cases := []struct {
		what string
		d    api.Deal
		h    api.Hire
		l    []api.Line
		want []api.Line
	}{
		{"all", deal(), full, nil, []api.Line{late, distance, fuel}},
		{"behind others", deal(), full, quoted, []api.Line{quoted[0], quoted[1], late, distance, fuel}},
		{"nothing", api.Deal{}, full, nil, nil},
		{"nothing behind others", api.Deal{}, full, quoted, quoted},
		{"not late", deal(), change(func(h *api.Hire) { h.Legs[0].In.At = 1570 }), nil, []api.Line{distance, fuel}},
		{"just the free kilometres", deal(), change(func(h *api.Hire) { h.Legs[0].In.Meter = 100 }), nil, []api.Line{late, fuel}},
		{"one more", deal(), change(func(h *api.Hire) { h.Legs[0].In.Meter = 101 }), nil, []api.Line{late, other("distance", 2), fuel}},
		{"fewer", deal(), change(func(h *api.Hire) { h.Legs[0].In.Meter = 1 }), nil, []api.Line{late, fuel}},
		{"enough fuel", deal(), change(func(h *api.Hire) { h.Legs[0].In.Fuel = 8 }), nil, []api.Line{late, distance}},
		{"a rental day more", deal(), change(func(h *api.Hire) { h.Time.To = 1541 }), nil, []api.Line{other("distance", 30), fuel}},
		{"only the agreed days are free", deal(), change(func(h *api.Hire) { h.Legs[0].In.At = 1540 + 3*api.DayLong }), nil, []api.Line{other("late", 15_000), distance, fuel}},
		{"several legs", deal(), ended(), nil, []api.Line{other("fuel", 1800)}},
		{"all kilometres of several legs", api.Deal{Free: 75, Km: 10}, ended(), nil, []api.Line{other("distance", 250)}},
	}
	for _, c := range cases {
		got, e := hire.Bill(c.d, c.h, c.l)
		same(t, c.what, got, c.want)
		is(t, c.what, e, api.OK)
	}
}

// P4.2
func TestBillErrors(t *testing.T) {
	late := one("h1", "ann", "v1", 0, 100, 200)
	full := many(1000, func(int) api.Line { return other("a", api.MaxCents) })
	bad := []api.Line{{Kind: 9}}
	far := read(0, 8, 10_000, 0)
	// 12,500 times 80,000 are MaxCents.
	exact := read(0, 0, 12_500, 0)
	cases := []struct {
		what string
		d    api.Deal
		h    api.Hire
		l    []api.Line
		want api.Errno
	}{
		{"deal first", badDeal(), badHire(), bad, api.ErrArg},
		{"hire", deal(), badHire(), bad, badHireError},
		{"lines", deal(), open(), bad, api.ErrKind},
		{"open", deal(), open(), full, api.ErrState},
		{"too many lines", deal(), late, append(full, full[0]), api.ErrLarge},
		{"no room for one", deal(), late, full, api.ErrLarge},
		{"no room for two", api.Deal{Km: 1, Eighth: 1}, far, full[1:], api.ErrLarge},
		{"room for all", deal(), one("h1", "ann", "v1", 0, 100, 101), full, api.OK},
		{"room for one", deal(), late, full[1:], api.OK},
		{"MaxCents", api.Deal{Km: 80_000}, exact, nil, api.OK},
		{"more", api.Deal{Km: 80_001}, exact, nil, api.ErrArg},
		{"the most", mostDeal(), roundAndRound(), nil, api.ErrArg},
	}
	for _, c := range cases {
		l, e := hire.Bill(c.d, c.h, c.l)
		is(t, c.what, e, c.want)
		is(t, c.what, e != api.OK && len(l) != 0, false)
	}
}

// roundAndRound goes as far as a hire can.
func roundAndRound() api.Hire {
	h := longHire(api.MaxLegs)
	for i := range h.Legs {
		h.Legs[i].Out.Meter, h.Legs[i].Out.Fuel = 1, 8
		h.Legs[i].In = reading(i+1, "s1", 0, 0)
	}
	return h
}

// P4.2
func TestKmMost(t *testing.T) {
	km, e := hire.Km(roundAndRound())
	is(t, "kilometres", km, api.MaxLegs*api.MaxMeter)
	is(t, "kilometres", e, api.OK)
	missing, e := hire.Missing(roundAndRound())
	is(t, "eighths", missing, api.MaxLegs*api.MaxFuel)
	is(t, "eighths", e, api.OK)
}

// P4.2
func TestSettle(t *testing.T) {
	full := many(1000, func(int) api.Line { return other("a", api.MaxCents) })
	none := many(1000, func(int) api.Line { return other("a", -api.MaxCents) })
	l := []api.Line{other("a", 15_000), other("b", -3000)}
	cases := []struct {
		what      string
		d         api.Deal
		l         []api.Line
		paid      int
		back, due int
	}{
		{"nothing", api.Deal{}, nil, 0, 0, 0},
		{"the deposit", deal(), nil, 0, 10_000, 0},
		{"more is due", deal(), l, 0, 0, 2000},
		{"one is due", deal(), l, 1999, 0, 1},
		{"just enough", deal(), l, 2000, 0, 0},
		{"one too much", deal(), l, 2001, 1, 0},
		{"without a deposit", api.Deal{}, l, 13_000, 1000, 0},
		{"a total below 0", deal(), l[1:], 5, 13_005, 0},
		{"the most due", api.Deal{}, full, 0, 0, 1000 * api.MaxCents},
		{"the most back", mostDeal(), none, api.MaxCents, 1001*api.MaxCents + api.MaxRate, 0},
	}
	for _, c := range cases {
		back, due, e := hire.Settle(c.d, c.l, c.paid)
		is(t, c.what, back, c.back)
		is(t, c.what, due, c.due)
		is(t, c.what, e, api.OK)
	}
	bad := []api.Line{{Kind: 9}}
	errors := []struct {
		what string
		d    api.Deal
		l    []api.Line
		paid int
		want api.Errno
	}{
		{"deal first", badDeal(), bad, -1, api.ErrArg},
		{"lines", deal(), bad, -1, api.ErrKind},
		{"too many lines", deal(), append(full, full[0]), -1, api.ErrLarge},
		{"paid below 0", deal(), l, -1, api.ErrArg},
		{"paid more", deal(), l, api.MaxCents + 1, api.ErrArg},
		{"least", deal(), l, least, api.ErrArg},
		{"greatest", deal(), l, greatest, api.ErrArg},
	}
	for _, c := range errors {
		back, due, e := hire.Settle(c.d, c.l, c.paid)
		is(t, c.what, back, 0)
		is(t, c.what, due, 0)
		is(t, c.what, e, c.want)
	}
}

// P4.2: the bill is what Late, Km and Missing say; what is given back, less what is still due, is what was paid, and the deposit, less the total.
func TestDueAtRandom(t *testing.T) {
	r := rand.New(rand.NewSource(12))
	for range 3000 {
		h := someHire(r, "h1", 4000)
		if h.Legs[len(h.Legs)-1].In.At == -1 {
			h, _ = hire.Close(h, reading(h.Legs[len(h.Legs)-1].Out.At+1+r.Intn(3000), "s1", r.Intn(1000), r.Intn(9)))
		}
		d := api.Deal{Free: r.Intn(10_001), Km: r.Intn(50), Eighth: r.Intn(500), Grace: r.Intn(100), Hour: r.Intn(1000), Day: r.Intn(9000), Deposit: r.Intn(5000)}
		minutes, late, _ := hire.Late(d, h)
		is(t, "late", late, slowLate(d, minutes))
		km, _ := hire.Km(h)
		missing, _ := hire.Missing(h)
		days, _ := tariff.Days(h.Time)
		before := []api.Line{line(api.LinePiece, "day", r.Intn(20_000)), line(api.LineCode, "code", -r.Intn(9000))}
		l, e := hire.Bill(d, h, before)
		is(t, "bill", e, api.OK)
		total, _ := tariff.Total(l)
		is(t, "total", total, before[0].Cents+before[1].Cents+late+d.Km*max(0, km-d.Free*days)+d.Eighth*missing)
		paid := r.Intn(30_000)
		back, due, e := hire.Settle(d, l, paid)
		is(t, "settled", e, api.OK)
		is(t, "settled", back-due, paid+d.Deposit-total)
		is(t, "one of both", back >= 0 && due >= 0 && (back == 0 || due == 0), true)
	}
}

// slowLate counts the hours and days that have begun minute by minute.
func slowLate(d api.Deal, minutes int) int {
	if minutes <= d.Grace {
		return 0
	}
	hours, days := 0, 0
	for minute := range minutes {
		if minute%60 == 0 {
			hours++
		}
		if minute%1440 == 0 {
			days++
		}
	}
	return min(hours*d.Hour, days*d.Day)
}
