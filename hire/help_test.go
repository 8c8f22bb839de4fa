package hire_test

import (
	"fmt"
	"math/rand"
	"slices"
	"strings"
	"testing"

	"forecourt/api"
	"forecourt/hire"
)

// is reports values that differ; lists go to same, for which an empty list is a nil one.
func is[T comparable](t *testing.T, what string, got, want T) {
	t.Helper()
	if got != want {
		t.Errorf("%s: got %v, want %v", what, got, want)
	}
}

func same[T comparable](t *testing.T, what string, got, want []T) {
	t.Helper()
	if !slices.Equal(got, want) {
		t.Errorf("%s: got %v, want %v", what, got, want)
	}
}

func sameHire(t *testing.T, what string, got, want api.Hire) {
	t.Helper()
	if !isSame(got, want) {
		t.Errorf("%s: got %v, want %v", what, got, want)
	}
}

func isSame(a, b api.Hire) bool {
	return a.Key == b.Key && a.Driver == b.Driver && a.Time == b.Time && slices.Equal(a.Legs, b.Legs)
}

// isNone says whether a hire is the zero value, as it is with an error.
func isNone(h api.Hire) bool { return isSame(h, api.Hire{}) }

// many makes a list of so many elements from their numbers.
func many[T any](count int, element func(i int) T) []T {
	var l []T
	for i := range count {
		l = append(l, element(i))
	}
	return l
}

// key makes keys that are in the order of their numbers.
func key(i int) string { return fmt.Sprintf("k%05d", i) }

// The longest key, and one that is too long.
var (
	longKey   = strings.Repeat("k", api.MaxName)
	longerKey = strings.Repeat("k", api.MaxName+1)
)

const least, greatest = -1 << 63, 1<<63 - 1

// A fault is a change that makes a right value wrong.
type fault[T any] struct {
	what   string
	change func(x *T)
	want   api.Errno
}

// inOrder says that each fault has its error, also together with any of those behind it: of two faults that change one field, the first one is the last to do so.
func inOrder[T any](t *testing.T, whole func() T, check func(x T) api.Errno, faults []fault[T]) {
	t.Helper()
	is(t, "without a fault", check(whole()), api.OK)
	for i, first := range faults {
		for _, second := range faults[i:] {
			x := whole()
			second.change(&x)
			first.change(&x)
			is(t, first.what+", "+second.what, check(x), first.want)
		}
	}
}

func reading(at int, station string, meter, fuel int) api.Reading {
	return api.Reading{At: at, Station: station, Meter: meter, Fuel: fuel}
}

// out is what is read of a vehicle that has not come back.
var out = api.Reading{At: -1}

// open is a hire with three legs that is open.
func open() api.Hire {
	return api.Hire{
		Key: "h1", Driver: "ann", Time: api.Window{From: 100, To: 1540},
		Legs: []api.Leg{
			{Vehicle: "v1", Out: reading(100, "s1", 999_990, 8), In: reading(200, "s2", 5, 4)},
			{Vehicle: "v2", Out: reading(200, "s2", 100, 7), In: reading(300, "s1", 160, 8)},
			{Vehicle: "v1", Out: reading(300, "s1", 20, 5), In: out},
		},
	}
}

// ended is the same hire, that has ended when it was agreed.
func ended() api.Hire {
	h := open()
	h.Legs[2].In = reading(1540, "s3", 45, 3)
	return h
}

// one is a hire of one leg; it is open if back is -1.
func one(key, driver, vehicle string, from, to, back int) api.Hire {
	h := api.Hire{Key: key, Driver: driver, Time: api.Window{From: from, To: to}, Legs: []api.Leg{{Vehicle: vehicle, Out: reading(from, "s1", 0, 0), In: out}}}
	if back != -1 {
		h.Legs[0].In = reading(back, "s1", 0, 0)
	}
	return h
}

// badHire has an error that no other argument of the tests leads to.
func badHire() api.Hire {
	h := ended()
	h.Legs[1].Vehicle = "v1"
	return h
}

const badHireError = api.ErrRule

func deal() api.Deal {
	return api.Deal{Free: 100, Km: 2, Eighth: 300, Grace: 30, Hour: 1000, Day: 5000, Deposit: 10_000}
}

// someHire makes a hire with a few vehicles and drivers in the first minutes.
func someHire(r *rand.Rand, key string, minutes int) api.Hire {
	at := r.Intn(minutes)
	h := api.Hire{Key: key, Driver: []string{"ann", "bob", "eve"}[r.Intn(3)], Time: api.Window{From: at, To: at + 1 + r.Intn(minutes)}}
	vehicle, station := r.Intn(4), "s1"
	for range 1 + r.Intn(4) {
		leg := api.Leg{Vehicle: []string{"v1", "v2", "v3", "v4"}[vehicle], Out: reading(at, station, r.Intn(api.MaxMeter+1), r.Intn(9))}
		at += 1 + r.Intn(minutes/3)
		station = []string{"s1", "s2"}[r.Intn(2)]
		leg.In = reading(at, station, r.Intn(api.MaxMeter+1), r.Intn(9))
		h.Legs = append(h.Legs, leg)
		vehicle = (vehicle + 1 + r.Intn(3)) % 4
	}
	if r.Intn(2) == 0 {
		h.Legs[len(h.Legs)-1].In = out
	}
	return h
}

func someHires(r *rand.Rand, count, minutes int) []api.Hire {
	return many(count, func(i int) api.Hire { return someHire(r, key(i), minutes) })
}

// mustCheck is for tests that need what is right.
func mustCheck(t *testing.T, l []api.Hire) {
	t.Helper()
	if e := hire.CheckAll(l); e != api.OK {
		t.Fatalf("the hires of the test have error %d: %v", e, l)
	}
}

// longHire has so many legs; it is open.
func longHire(legs int) api.Hire {
	h := api.Hire{Key: "h1", Driver: "ann", Time: api.Window{From: 0, To: 5}}
	for i := range legs {
		h.Legs = append(h.Legs, api.Leg{Vehicle: []string{"v1", "v2"}[i%2], Out: reading(i, "s1", 1, 1), In: reading(i+1, "s1", 1, 1)})
	}
	h.Legs[legs-1].In = out
	return h
}
