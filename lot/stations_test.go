package lot_test

import (
	"math"
	"math/rand"
	"strings"
	"testing"

	"forecourt/api"
	"forecourt/lot"
)

func stations(count int) []api.Station {
	var l []api.Station
	for _, key := range keys("s", count) {
		l = append(l, api.Station{Key: key})
	}
	return l
}

func withHours(day, from, to int) api.Station {
	s := api.Station{Key: "s"}
	s.Hours[day] = api.Window{From: from, To: to}
	return s
}

// P1.1
func TestCheckStations(t *testing.T) {
	cases := []struct {
		what string
		l    []api.Station
		want api.Errno
	}{
		{"none", nil, api.OK},
		{"ordinary", fleet().Stations, api.OK},
		{"MaxStations", stations(api.MaxStations), api.OK},
		{"more", stations(api.MaxStations + 1), api.ErrLarge},
		{"large before name", append(make([]api.Station, 1), stations(api.MaxStations)...), api.ErrLarge},
		{"no key", []api.Station{{}}, api.ErrName},
		{"capital", []api.Station{{Key: "North"}}, api.ErrName},
		{"digit first", []api.Station{{Key: "1n"}}, api.ErrName},
		{"longest key", []api.Station{{Key: strings.Repeat("a", api.MaxName)}}, api.OK},
		{"longer key", []api.Station{{Key: strings.Repeat("a", api.MaxName+1)}}, api.ErrName},
		{"same key", []api.Station{{Key: "a"}, {Key: "a"}}, api.ErrOrder},
		{"lesser key", []api.Station{{Key: "b"}, {Key: "a"}}, api.ErrOrder},
		{"bytes, not lengths", []api.Station{{Key: "a"}, {Key: "aa"}, {Key: "b"}}, api.OK},
		{"name before order", []api.Station{{Key: "b"}, {Key: "A"}}, api.ErrName},
		{"order before hours", []api.Station{{Key: "b"}, {Key: "a", Hours: allWeek(2, 1)}}, api.ErrOrder},
		{"one after the other", []api.Station{withHours(0, 2, 1), {Key: "A"}}, api.ErrArg},
		{"From below 0", []api.Station{withHours(0, -1, 5)}, api.ErrArg},
		{"From above To", []api.Station{withHours(6, 6, 5)}, api.ErrArg},
		{"To above DayLong", []api.Station{withHours(3, 0, api.DayLong+1)}, api.ErrArg},
		{"all day", []api.Station{withHours(3, 0, api.DayLong)}, api.OK},
		{"closed at DayLong", []api.Station{withHours(3, api.DayLong, api.DayLong)}, api.OK},
		{"great hours", []api.Station{withHours(3, math.MinInt, math.MaxInt)}, api.ErrArg},
		{"greatest hours", []api.Station{withHours(3, math.MaxInt, math.MaxInt)}, api.ErrArg},
	}
	for _, c := range cases {
		is(t, c.what, lot.CheckStations(c.l), c.want)
	}
}

// P1.1
func TestIsOpen(t *testing.T) {
	s := withHours(2, 480, 1080)
	wednesday := 2 * api.DayLong
	cases := []struct {
		at   int
		want bool
	}{
		{wednesday + 479, false}, {wednesday + 480, true}, {wednesday + 1079, true}, {wednesday + 1080, false},
		{480, false}, {9*api.DayLong + 480, true}, {api.End - 1, false},
	}
	for _, c := range cases {
		open, e := lot.IsOpen(s, c.at)
		is(t, "IsOpen", open, c.want)
		is(t, "IsOpen", e, api.OK)
	}
	open, _ := lot.IsOpen(api.Station{Key: "s", Hours: allWeek(0, api.DayLong)}, api.End-1)
	is(t, "the last moment", open, true)
}

// P1.1
func TestNextOpen(t *testing.T) {
	monday := withHours(0, 480, 1080)
	thursday := withHours(3, 0, 10) // day MaxDay is one
	cases := []struct {
		what string
		s    api.Station
		at   int
		want int
		e    api.Errno
	}{
		{"earlier that day", monday, 0, 480, api.OK},
		{"at the beginning", monday, 480, 480, api.OK},
		{"while it is open", monday, 1079, 1079, api.OK},
		{"the example", monday, 1080, 10_560, api.OK},
		{"on another day", monday, 3 * api.DayLong, 10_560, api.OK},
		{"never", api.Station{Key: "s"}, 0, 0, api.ErrNone},
		{"never, at an hour", api.Station{Key: "s", Hours: allWeek(600, 600)}, 0, 0, api.ErrNone},
		{"on the last day", thursday, api.End - 1441, api.MaxDay * api.DayLong, api.OK},
		{"its last minute", thursday, api.MaxDay*api.DayLong + 9, api.MaxDay*api.DayLong + 9, api.OK},
		{"after the last one", thursday, api.MaxDay*api.DayLong + 10, 0, api.ErrNone},
		{"behind End", withHours(4, 0, 10), api.End - 1, 0, api.ErrNone},
		{"the last moment", withHours(3, 1439, 1440), api.End - 1, api.End - 1, api.OK},
	}
	for _, c := range cases {
		next, e := lot.NextOpen(c.s, c.at)
		is(t, c.what, next, c.want)
		is(t, c.what, e, c.e)
	}
}

// P1.1
func TestOpenMinutes(t *testing.T) {
	monday := withHours(0, 480, 1080)
	cases := []struct {
		what     string
		from, to int
		want     int
	}{
		{"nothing", 500, 500, 0},
		{"nothing at the end", api.End, api.End, 0},
		{"one", 500, 501, 1},
		{"up to the beginning", 0, 480, 0},
		{"from the end on", 1080, 10_560, 0},
		{"two days", 1000, 11_000, 520},
		{"all", 0, api.End, 600 * 572}, // days 0, 7 .. 3997
	}
	for _, c := range cases {
		n, e := lot.OpenMinutes(monday, api.Window{From: c.from, To: c.to})
		is(t, c.what, n, c.want)
		is(t, c.what, e, api.OK)
	}
	n, _ := lot.OpenMinutes(api.Station{Key: "s", Hours: allWeek(0, api.DayLong)}, api.Window{To: api.End})
	is(t, "always", n, api.End)
}

// P1.1: NextOpen and OpenMinutes are what IsOpen says of each moment.
func TestHoursByMoments(t *testing.T) {
	r := rand.New(rand.NewSource(1))
	for range 40 {
		s := api.Station{Key: "s"}
		for day := range s.Hours {
			if r.Intn(3) > 0 {
				from := r.Intn(api.DayLong)
				s.Hours[day] = api.Window{From: from, To: from + r.Intn(api.DayLong-from+1)}
			}
		}
		begin := r.Intn(api.End - 30_000)
		end := begin + r.Intn(15_000)
		count, next := 0, -1
		for at := begin; at < end || next < 0 && at < begin+20_000; at++ {
			open, _ := lot.IsOpen(s, at)
			if open && at < end {
				count++
			}
			if open && next < 0 {
				next = at
			}
		}
		n, _ := lot.OpenMinutes(s, api.Window{From: begin, To: end})
		is(t, "OpenMinutes", n, count)
		if at, e := lot.NextOpen(s, begin); next >= 0 {
			is(t, "NextOpen", at, next)
		} else {
			is(t, "NextOpen", e, api.ErrNone)
		}
	}
}

// P1.1
func TestStationErrors(t *testing.T) {
	bad, good := withHours(0, 2, 1), withHours(0, 0, api.DayLong)
	for _, at := range []int{-1, api.End, math.MinInt, math.MaxInt} {
		open, e := lot.IsOpen(good, at)
		is(t, "IsOpen", open, false)
		is(t, "IsOpen", e, api.ErrArg)
		next, e := lot.NextOpen(good, at)
		is(t, "NextOpen", next, 0)
		is(t, "NextOpen", e, api.ErrArg)
	}
	for _, w := range []api.Window{{From: -1, To: 1}, {From: 2, To: 1}, {From: 0, To: api.End + 1}, {From: math.MinInt, To: math.MaxInt}} {
		n, e := lot.OpenMinutes(good, w)
		is(t, "OpenMinutes", n, 0)
		is(t, "OpenMinutes", e, api.ErrArg)
	}
	bad.Key = "S"
	refuseStation(t, "station first", bad, -1, api.ErrName)
	bad.Key = "s"
	refuseStation(t, "hours", bad, 0, api.ErrArg)
}

// refuseStation asks that the functions with one station have its error, and nothing else.
func refuseStation(t *testing.T, what string, s api.Station, at int, want api.Errno) {
	t.Helper()
	open, e := lot.IsOpen(s, at)
	is(t, "IsOpen: "+what, open, false)
	is(t, "IsOpen: "+what, e, want)
	next, e := lot.NextOpen(s, at)
	is(t, "NextOpen: "+what, next, 0)
	is(t, "NextOpen: "+what, e, want)
	minutes, e := lot.OpenMinutes(s, api.Window{From: at})
	is(t, "OpenMinutes: "+what, minutes, 0)
	is(t, "OpenMinutes: "+what, e, want)
}
