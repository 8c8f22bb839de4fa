package lot_test

import (
	"fmt"
	"math"
	"math/rand"
	"testing"

	"forecourt/api"
	"forecourt/lot"
)

// life has v1 in each state, and v2 ready at the same time.
func life() []api.Event {
	return []api.Event{
		event(100, "v1", api.EventEnter, "air"),
		event(100, "v2", api.EventEnter, "air"),
		event(200, "v1", api.EventOut, "air"),
		event(250, "v1", api.EventOut, "air"), // broken
		event(300, "v1", api.EventBack, "north"),
		event(310, "v1", api.EventShop, "north"),
		event(340, "v1", api.EventDone, "north"),
		event(345, "v1", api.EventBack, "north"), // broken
		leave(350, "v1", "north", "south"),
		event(390, "v1", api.EventCome, "south"),
		event(400, "v1", api.EventOut, "south"),
		event(450, "v1", api.EventBack, "south"),
		event(460, "v1", api.EventGone, "south"),
	}
}

// P1.6
func TestSpentIn(t *testing.T) {
	f := fleet()
	mustCheck(t, f, life())
	cases := []struct {
		vehicle  string
		from, to int
		want     api.Spent
	}{
		{"v1", 0, 500, api.Spent{None: 100, Ready: 140, Hired: 150, Shop: 30, Moving: 40, Gone: 40}},
		{"v1", 0, 100, api.Spent{None: 100}},
		{"v1", 99, 101, api.Spent{None: 1, Ready: 1}},
		{"v1", 200, 300, api.Spent{Hired: 100}},
		{"v1", 299, 311, api.Spent{Hired: 1, Ready: 10, Shop: 1}},
		{"v1", 250, 250, api.Spent{}},
		{"v1", api.End, api.End, api.Spent{}},
		{"v1", 460, api.End, api.Spent{Gone: api.End - 460}},
		{"v2", 0, api.End, api.Spent{None: 100, Ready: api.End - 100}},
		{"v3", 0, api.End, api.Spent{None: api.End}},
	}
	for _, c := range cases {
		s, e := lot.SpentIn(f, life(), c.vehicle, api.Window{From: c.from, To: c.to})
		what := fmt.Sprint(c.vehicle, " from ", c.from, " to ", c.to)
		is(t, what, s, c.want)
		is(t, what, e, api.OK)
	}
	example := []api.Event{event(100, "v1", api.EventEnter, "air"), event(200, "v1", api.EventOut, "air"), event(300, "v1", api.EventOut, "air")}
	s, _ := lot.SpentIn(f, example, "v1", api.Window{To: 400})
	is(t, "the example", s, api.Spent{None: 100, Ready: 100, Hired: 200})
	s, _ = lot.SpentIn(f, []api.Event{event(0, "v1", api.EventEnter, "air")}, "v1", api.Window{To: 7})
	is(t, "from 0 on", s, api.Spent{Ready: 7})
}

// P1.6
func TestUse(t *testing.T) {
	f := fleet()
	cases := []struct {
		from, to int
		want     api.Fraction
		e        api.Errno
	}{
		{0, 101, api.Fraction{Num: 0, Den: 1}, api.OK},
		{200, 300, api.Fraction{Num: 1, Den: 2}, api.OK},
		{0, 500, api.Fraction{Num: 15, Den: 76}, api.OK}, // 150 of 360 and 400
		{290, 320, api.Fraction{Num: 1, Den: 6}, api.OK}, // 10 of 30 and 30: the workshop counts
		{340, 410, api.Fraction{Num: 1, Den: 14}, api.OK},
		{445, 465, api.Fraction{Num: 1, Den: 7}, api.OK}, // 5 of 15 and 20: what is gone does not count
		{0, 100, api.Fraction{}, api.ErrNone},
		{200, 200, api.Fraction{}, api.ErrNone},
	}
	for _, c := range cases {
		u, e := lot.Use(f, life(), api.Window{From: c.from, To: c.to})
		what := fmt.Sprint("from ", c.from, " to ", c.to)
		is(t, what, u, c.want)
		is(t, what, e, c.e)
	}
	hired := []api.Event{event(0, "v1", api.EventEnter, "air"), event(1, "v1", api.EventOut, "air")}
	u, _ := lot.Use(f, hired, api.Window{From: 1, To: api.End})
	is(t, "always", u, api.Fraction{Num: 1, Den: 1})
	_, e := lot.Use(api.Fleet{}, nil, api.Window{To: api.End})
	is(t, "no vehicles", e, api.ErrNone)
}

// P1.6
func TestTrips(t *testing.T) {
	f := fleet()
	trips, e := lot.Trips(f, life(), "v1")
	same(t, "two", trips, []api.Trip{{From: 200, To: 300, A: "air", B: "north"}, {From: 400, To: 450, A: "south", B: "south"}})
	is(t, "two", e, api.OK)
	trips, e = lot.Trips(f, life()[:4], "v1")
	same(t, "it lasts on", trips, []api.Trip{{From: 200, To: -1, A: "air"}})
	is(t, "it lasts on", e, api.OK)
	trips, _ = lot.Trips(f, life()[:5], "v1")
	same(t, "nothing behind it", trips, []api.Trip{{From: 200, To: 300, A: "air", B: "north"}})
	for _, vehicle := range []string{"v2", "v3"} {
		trips, e = lot.Trips(f, life(), vehicle)
		same(t, "none", trips, nil)
		is(t, "none", e, api.OK)
	}
	var l []api.Event
	for at := range api.MaxEvents {
		kind := api.EventBack
		if at == 0 {
			kind = api.EventEnter
		} else if at%2 == 1 {
			kind = api.EventOut
		}
		l = append(l, event(at, "v1", kind, "air"))
	}
	trips, _ = lot.Trips(f, l, "v1")
	is(t, "many", len(trips), api.MaxEvents/2)
	is(t, "many", trips[0], api.Trip{From: 1, To: 2, A: "air", B: "air"})
	is(t, "many", trips[len(trips)-1], api.Trip{From: api.MaxEvents - 1, To: -1, A: "air"})
}

// P1.6
func TestTimeErrors(t *testing.T) {
	f := fleet()
	for _, vehicle := range []string{"v9", "", "V1"} {
		s, e := lot.SpentIn(f, life(), vehicle, api.Window{From: -1})
		is(t, "SpentIn: no vehicle", s, api.Spent{})
		is(t, "SpentIn: no vehicle", e, api.ErrNone)
		trips, e := lot.Trips(f, life(), vehicle)
		same(t, "Trips: no vehicle", trips, nil)
		is(t, "Trips: no vehicle", e, api.ErrNone)
	}
	for _, w := range []api.Window{{From: -1, To: 5}, {From: 5, To: 4}, {From: 0, To: api.End + 1}, {From: math.MinInt, To: math.MaxInt}, {From: math.MaxInt, To: math.MinInt}} {
		s, e := lot.SpentIn(f, life(), "v1", w)
		is(t, "SpentIn: window", s, api.Spent{})
		is(t, "SpentIn: window", e, api.ErrArg)
		u, e := lot.Use(f, life(), w)
		is(t, "Use: window", u, api.Fraction{})
		is(t, "Use: window", e, api.ErrArg)
		_, e = lot.Use(f, nil, w)
		is(t, "Use: window before no moments", e, api.ErrArg)
	}
	wrong := api.Window{From: -1}
	checksFirst(t, "SpentIn", func(f api.Fleet, l []api.Event) api.Errno { _, e := lot.SpentIn(f, l, "v9", wrong); return e })
	checksFirst(t, "Use", func(f api.Fleet, l []api.Event) api.Errno { _, e := lot.Use(f, l, wrong); return e })
	checksFirst(t, "Trips", func(f api.Fleet, l []api.Event) api.Errno { _, e := lot.Trips(f, l, "v9"); return e })
}

// P1.6: SpentIn is what StateOf says of each moment; its numbers add up to the window, and Hired to the trips in it.
func TestTimesAtRandom(t *testing.T) {
	r := rand.New(rand.NewSource(7))
	f := fleet()
	for range 30 {
		l := logOf(r, f, r.Intn(100), 150)
		w := api.Window{From: r.Intn(160)}
		w.To = w.From + r.Intn(60)
		hired, all := 0, 0
		for _, v := range f.Vehicles {
			s, _ := lot.SpentIn(f, l, v.Key, w)
			is(t, "SpentIn", s, byMoments(f, l, v.Key, w))
			is(t, "sum", s.None+s.Ready+s.Hired+s.Shop+s.Moving+s.Gone, w.To-w.From)
			trips, _ := lot.Trips(f, l, v.Key)
			is(t, "trips", inTrips(trips, w), s.Hired)
			hired += s.Hired
			all += s.Ready + s.Hired + s.Shop + s.Moving
		}
		u, e := lot.Use(f, l, w)
		is(t, "Use: ErrNone", e == api.ErrNone, all == 0)
		if all > 0 {
			is(t, "Use", u.Num*all, u.Den*hired)
			for n := 2; n <= u.Den; n++ {
				is(t, "Use: lowest terms", u.Num%n == 0 && u.Den%n == 0, false)
			}
		}
	}
}

func byMoments(f api.Fleet, l []api.Event, vehicle string, w api.Window) api.Spent {
	var sum api.Spent
	for at := w.From; at < w.To; at++ {
		s, _ := lot.StateOf(f, l, vehicle, at)
		field := []*int{&sum.None, &sum.Ready, &sum.Hired, &sum.Shop, &sum.Moving, &sum.Gone}[s.State]
		*field++
	}
	return sum
}

func inTrips(trips []api.Trip, w api.Window) int {
	sum := 0
	for _, trip := range trips {
		for at := w.From; at < w.To; at++ {
			if at >= trip.From && (at < trip.To || trip.To < 0) {
				sum++
			}
		}
	}
	return sum
}
