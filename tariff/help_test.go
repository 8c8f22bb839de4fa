package tariff_test

import (
	"fmt"
	"math/rand"
	"slices"
	"strings"
	"testing"

	"forecourt/api"
	"forecourt/tariff"
)

// is reports values that differ; lists go to same, for which an empty list is a nil one.
func is[T comparable](t *testing.T, what string, got, want T) {
	t.Helper()
	if got != want {
		t.Errorf("%s: got %v, want %v", what, got, want)
	}
}

func same[T comparable](t *testing.T, what string, got, want []T) {
	t.Helper()
	if !slices.Equal(got, want) {
		t.Errorf("%s: got %v, want %v", what, got, want)
	}
}

// A check is one of a list of some type, with what it has to say.
type check[T any] struct {
	what string
	l    []T
	want api.Errno
}

func runChecks[T any](t *testing.T, function func([]T) api.Errno, checks []check[T]) {
	t.Helper()
	for _, c := range checks {
		is(t, c.what, function(c.l), c.want)
	}
}

// many makes a list of so many elements from their numbers.
func many[T any](count int, element func(i int) T) []T {
	var l []T
	for i := range count {
		l = append(l, element(i))
	}
	return l
}

// key makes keys that are in the order of their numbers.
func key(i int) string { return fmt.Sprintf("k%05d", i) }

// The longest key, and one that is too long.
var (
	longKey   = strings.Repeat("k", api.MaxName)
	longerKey = strings.Repeat("k", api.MaxName+1)
)

// span is a time of so many minutes.
func span(from, minutes int) api.Window { return api.Window{From: from, To: from + minutes} }

// Moments of the first week.
const (
	mondayNoon   = 720
	thursdayNoon = 3*api.DayLong + 720
	fridayNoon   = 4*api.DayLong + 720
	sundayNoon   = 6*api.DayLong + 720
	nextMonday   = 7*api.DayLong + 720
)

// rates has mini for all days, midi in two seasons with a gap of a day (9) between, and maxi for weeks alone.
func rates() []api.Rate {
	return []api.Rate{
		{Class: "maxi", To: 4001, Hour: -1, Day: -1, Weekend: -1, Week: 900},
		{Class: "midi", From: 2, To: 9, Hour: 20, Day: 90, Weekend: 100, Week: 300},
		{Class: "midi", From: 10, To: 20, Hour: 30, Day: 95, Weekend: 110, Week: 310},
		{Class: "mini", To: 4001, Hour: 10, Day: 50, Weekend: 70, Week: 200},
	}
}

// badRates has an error that no other argument of the tests leads to.
func badRates() []api.Rate {
	return []api.Rate{{Class: "mini", To: 20}, {Class: "mini", From: 10, To: 30}}
}

const badRatesError = api.ErrConflict

// someRates makes right rates of mini and midi in the first days, with few prices, so that many divisions cost the same.
func someRates(r *rand.Rand, days int) []api.Rate {
	price := func(top int) int { return (r.Intn(top+1) - 1) * 10 }
	var l []api.Rate
	for _, class := range []string{"midi", "mini"} {
		for from := r.Intn(2); from < days; {
			to := from + 1 + r.Intn(9)
			rate := api.Rate{Class: class, From: from, To: to, Hour: price(3), Day: price(5), Weekend: price(9), Week: price(20)}
			for _, field := range []*int{&rate.Hour, &rate.Day, &rate.Weekend, &rate.Week} {
				*field = max(*field, -1)
			}
			l = append(l, rate)
			from = to + max(0, r.Intn(12)-10)
		}
	}
	return l
}

// badWindows are times that no hire can have.
func badWindows() []api.Window {
	const least, most = -1 << 63, 1<<63 - 1
	return []api.Window{
		{}, {From: -1, To: 5}, {From: 5, To: 5}, {From: 6, To: 5}, {From: 0, To: api.End}, {From: api.End - 1, To: api.End},
		{From: api.End - 1, To: api.End - 1}, {From: 0, To: -1}, {From: least, To: most}, {From: most, To: least}, {From: 0, To: most}, {From: least, To: least}, {From: least, To: 1},
	}
}

// longWindow has a rental day too many.
func longWindow() api.Window { return span(0, api.MaxDays*api.DayLong+1) }

// mustCheck is for tests that need right rates.
func mustCheck(t *testing.T, l []api.Rate) {
	t.Helper()
	if e := tariff.CheckRates(l); e != api.OK {
		t.Fatalf("the rates of the test have error %d: %v", e, l)
	}
}
